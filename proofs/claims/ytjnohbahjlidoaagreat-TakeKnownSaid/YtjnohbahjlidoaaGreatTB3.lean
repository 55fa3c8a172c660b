/-
  The walk of package carve's planOf. Condition: the state and the call's ways lie in memory.
  The walk of what a plan does to a state. Condition: the state lies in memory, the plan's places are its own.
  What carve answers, as plain data: a plan's places and numbers fit the state. No condition.
  How such an answer is handed back. Condition: none.
  The walk of package carve's Do. Condition: the state and the call's ways lie in memory.
  The law's own way, first, heavy, awake. Condition: none.
-/
import Derived.Test.YtjnohbahjlidoaaGreatTB2
namespace Go.Proofs.YtjnohbahjlidoaaGreat
open Go.RowKit

theorem zero_plan (w : World) : Sem.run Tryz.prog (zeroValue 88) w = .ok (.agg #[.int .i64 0, .int .i64 0, .int .i64 0, .int .i64 0, .int .i64 0, .int .i64 0, .int .i64 0, .int .i64 0, .int .i64 0, .int .i64 0, .int .i64 0, .bool false, .int .u64 0, .int .u64 0, .int .u64 0, .int .u64 0, .int .u64 0]) w := by kernel_rfl
def Pn.val (p : Pn) : Value := .agg #[.int .i64 (p.src : Int), .int .i64 (p.dst : Int), .int .i64 p.used, .int .i64 (p.num : Int), .int .i64 p.made.ty, .int .i64 p.made.bits, .int .i64 p.made.base, .int .i64 p.made.size, .int .i64 p.made.used, .int .i64 p.made.frm, .int .i64 p.made.badge, .bool p.made.full, .int .u64 (p.made.word : Int), .int .u64 (p.made.d0 : Int), .int .u64 (p.made.d1 : Int), .int .u64 (p.made.d2 : Int), .int .u64 (p.made.d3 : Int)]
theorem fempty_slot {s : St} {t x : Int} {l : List Int} (h : fempty s t l = (x, 0)) : ∃ k : Nat, x = k ∧ k < s.sl.length ∧ sgood s = true ∧ (slAt s.sl k).c.non = true := by
  unfold fempty at h
  split at h
  · rename_i h3
    obtain ⟨k, e, hk, hg⟩ := fslot_slot (x := (fslot s t l).1) (s := s) (t := t) (l := l) (Prod.ext rfl h3)
    split at h
    · rename_i h4
      obtain ⟨h5, -⟩ := Prod.mk.inj h
      rw [e, Int.toNat_natCast] at h4
      exact ⟨k, by rw [← h5, e], hk, hg, h4⟩
    · obtain ⟨-, h⟩ := Prod.mk.inj h
      cases h
  · rename_i h3
    exact absurd (Prod.mk.inj h).2 h3
theorem tcost_le {k y q : Int} (h : tcost k y = some q) : 1 ≤ q ∧ q ≤ 4096 := by
  unfold tcost at h
  split at h
  · split at h
    · rename_i h1
      have := inr3_iff.1 h1
      injection h with h
      omega
    · cases h
  · split at h
    · split at h
      · rename_i h1
        have h2 := inr3_iff.1 h1
        injection h with h
        have : y = 1 ∨ y = 2 ∨ y = 3 ∨ y = 4 := by omega
        rcases this with rfl | rfl | rfl | rfl <;> (rw [← h]; decide)
      · cases h
    · split at h
      · injection h with h; omega
      · split at h
        · injection h with h; omega
        · split at h
          · injection h with h; omega
          · cases h
theorem used_small {s : St} {k : Int} (h : sgood s = true) (hk : roomB s k = true) : 0 ≤ usedZ s k ∧ usedZ s k ≤ 4096 := by
  unfold usedZ
  split
  · simp only [roomB, Bool.and_eq_true, decide_eq_true_eq] at hk
    have hG := sgood_iff.1 h
    have hF := hG.fsl (i := k.toNat) (by omega) (by rw [hk.2.2]; decide)
    exact (hG.thok.small hF.th).used
  · omega
set_option maxRecDepth 100000 in
set_option maxHeartbeats 16000000 in
theorem plan_is {s : St} {a b c : Int} {A C : Option Addr} {n ca m cc : Nat} {t o x y e0 : Int} {PA PB : Option Addr} {na cpa nb cpb z : Nat} {la lb : List Int} {p : Pn} {w : World} (hS : StH w s a b c A n ca C m cc)
    (hna : na = la.length) (hcpa : na ≤ cpa) (hA : IntsAt w w.heap.size PA la) (hnb : nb = lb.length) (hcpb : nb ≤ cpb) (hB : IntsAt w w.heap.size PB lb) (hr : cplan s t ⟨o, la, lb, x, y, z⟩ = (p, e0)) :
    Calls Tryz.prog 54 #[.agg #[.int .i64 a, .int .i64 b, .int .i64 c, .slice A n ca, .slice C m cc], .int .i64 t, .agg #[.int .i64 o, .slice PA na cpa, .slice PB nb cpb, .int .i64 x, .int .i64 y, .int .u64 (z : Int)]] w fun e w' => e = .returned (.tuple #[p.val, .int .i64 e0]) ∧ Below w.heap.size w w' := by
  have HS := Lib.hid hS
  have HNA := Lib.hid hna
  have HNB := Lib.hid hnb
  have HCA := Lib.hid hcpa
  have HCB := Lib.hid hcpb
  have HA := Lib.hid hA
  have HB := Lib.hid hB
  have HR := Lib.hid hr
  have k0 := Sbx.new w a b c A n ca C m cc 28
  have c1 := Bxs.more k0.old [.int .i64 o, .slice PA na cpa, .slice PB nb cpb, .int .i64 x, .int .i64 y, .int .u64 (z : Int)] 41
  rw [show (w.alloc (.cells #[.int .i64 a, .int .i64 b, .int .i64 c, .slice A n ca, .slice C m cc] 28)).heap.size = w.heap.size + 1 by simp] at c1
  have r2 := Wbs.more c1.old [.int .i64 0, .int .i64 0, .int .i64 0, .int .i64 0, .int .i64 0, .int .i64 0, .int .i64 0, .int .i64 0, .int .i64 0, .int .i64 0, .int .i64 0, .bool false, .int .u64 0, .int .u64 0, .int .u64 0, .int .u64 0, .int .u64 0] 88
  rw [show ((w.alloc (.cells #[.int .i64 a, .int .i64 b, .int .i64 c, .slice A n ca, .slice C m cc] 28)).alloc (.cells [.int .i64 o, .slice PA na cpa, .slice PB nb cpb, .int .i64 x, .int .i64 y, .int .u64 (z : Int)].toArray 41)).heap.size = w.heap.size + 1 + 1 by simp] at r2
  have k2 := (k0.on (below_alloc _ (.cells #[.int .i64 o, .slice PA na cpa, .slice PB nb cpb, .int .i64 x, .int .i64 y, .int .u64 (z : Int)] 41))).on (below_alloc _ (.cells #[.int .i64 0, .int .i64 0, .int .i64 0, .int .i64 0, .int .i64 0, .int .i64 0, .int .i64 0, .int .i64 0, .int .i64 0, .int .i64 0, .int .i64 0, .bool false, .int .u64 0, .int .u64 0, .int .u64 0, .int .u64 0, .int .u64 0] 88))
  have c2 := c1.on (below_alloc _ (.cells #[.int .i64 0, .int .i64 0, .int .i64 0, .int .i64 0, .int .i64 0, .int .i64 0, .int .i64 0, .int .i64 0, .int .i64 0, .int .i64 0, .int .i64 0, .bool false, .int .u64 0, .int .u64 0, .int .u64 0, .int .u64 0, .int .u64 0] 88))
  clear hS hna hnb hcpa hcpb hA hB hr k0 c1
  obtain ⟨g1, hg1⟩ : ∃ g1, g1 = w.heap.size + 1 := ⟨_, rfl⟩
  obtain ⟨g2, hg2⟩ : ∃ g2, g2 = w.heap.size + 1 + 1 := ⟨_, rfl⟩
  by_cases ho : o = 1
  case neg =>
    have ho2 : (o != 1) = true := by simpa using ho
    go_enter Tryz.func54, Tryz.ntmps54
    go_upto_region 1 with fail
    rw [← hg2] at r2 ⊢
    rw [← hg1] at c2 ⊢
    clear hg1 hg2
    generalize ((w.alloc _).alloc _).alloc _ = w2 at k2 c2 r2 ⊢
    have K2 := Lib.hid k2
    have C2 := Lib.hid c2
    have R2 := Lib.hid r2
    clear k2 c2 r2
    have HX : Hid ((p, e0) = (Pn.zero, 1)) := Lib.hid (by rw [← HR.out]; rw [cplan, if_neg (fun q => ho q.1)])
    obtain ⟨h1, h2⟩ := Prod.mk.inj HX.out
    have HP := Lib.hid h1
    have HE := Lib.hid h2
    clear h1 h2 HX HR
    have o0 := C2.out.c 0 _ rfl
    have HTH : Hid (w2.there g2 0 (#[.int .i64 0, .int .i64 0, .int .i64 0, .int .i64 0, .int .i64 0, .int .i64 0, .int .i64 0, .int .i64 0, .int .i64 0, .int .i64 0, .int .i64 0, .bool false, .int .u64 0, .int .u64 0, .int .u64 0, .int .u64 0, .int .u64 0] : Array Value).size) := Lib.hid (R2.out.there (n := 17) rfl)
    have HONE := Lib.hid (plan_one (0) (0) (0) (0) (0) (0) (0) (0) (0) (0) (0) (false) (0) (0) (0) (0) (0))
    go_wp2_with ((with_reducible change wpList _ _ _ _ _ _); refine wpList_store_mid (by rfl) 88 (.tmp 6) (.tmp 24) (by rfl) g2 0 #[.int .i64 0, .int .i64 0, .int .i64 0, .int .i64 0, .int .i64 0, .int .i64 0, .int .i64 0, .int .i64 0, .int .i64 0, .int .i64 0, .int .i64 0, .bool false, .int .u64 0, .int .u64 0, .int .u64 0, .int .u64 0, .int .u64 0] (by rfl) (by rfl) HTH.out info_plan HONE.out ?_; have qq := R2.out.setCells (vs := [.int .i64 0, .int .i64 0, .int .i64 0, .int .i64 0, .int .i64 0, .int .i64 0, .int .i64 0, .int .i64 0, .int .i64 0, .int .i64 0, .int .i64 0, .bool false, .int .u64 0, .int .u64 0, .int .u64 0, .int .u64 0, .int .u64 0]) rfl; change wpList _ _ _ _ _ (w2.setCells g2 0 [.int .i64 0, .int .i64 0, .int .i64 0, .int .i64 0, .int .i64 0, .int .i64 0, .int .i64 0, .int .i64 0, .int .i64 0, .int .i64 0, .int .i64 0, .bool false, .int .u64 0, .int .u64 0, .int .u64 0, .int .u64 0, .int .u64 0]); generalize w2.setCells g2 0 _ = wq at qq ⊢; have HQQ := Lib.hid qq; clear qq)
    refine bodyPost_ret (results_ct rfl _ _ _ (b := g2) (by rfl) HQQ.out.bx.range Tryz.underlying88 rfl info_plan) rfl ?_
    exact ⟨by rw [HP.out, HE.out]; rfl, HQQ.out.bx.old⟩
  subst ho
  go_enter Tryz.func54, Tryz.ntmps54
  go_upto_region 1 with fail
  rw [← hg2] at r2 ⊢
  rw [← hg1] at c2 ⊢
  clear hg1 hg2
  generalize ((w.alloc _).alloc _).alloc _ = w2 at k2 c2 r2 ⊢
  have K2 := Lib.hid k2
  have C2 := Lib.hid c2
  have R2 := Lib.hid r2
  clear k2 c2 r2
  obtain ⟨b0, b1, b2, c3, c4, -, -, lt⟩ := K2.out
  have o0 := C2.out.c 0 _ rfl
  have o1 := C2.out.c 1 _ rfl
  have o2 := C2.out.c 2 _ rfl
  have o3 := C2.out.c 3 _ rfl
  have o4 := C2.out.c 4 _ rfl
  have o5 := C2.out.c 5 _ rfl
  go_wp2_with fail
  obtain ⟨zg, hzg⟩ : ∃ zg, cgood ⟨1, la, lb, x, y, z⟩ = zg := ⟨_, rfl⟩
  have HZG := Lib.hid hzg
  clear hzg
  refine (clcgood_at HNA.out (HA.out.on K2.out.old) HNB.out (HB.out.on K2.out.old) HZG.out).mono ?_
  rintro e w3 ⟨rfl, hb⟩
  have K3 := Lib.hid (K2.out.on hb)
  have C3 := Lib.hid (C2.out.on hb)
  have R3 := Lib.hid (R2.out.on hb)
  clear hb K2 C2 R2 b0 b1 b2 c3 c4 lt o0 o1 o2 o3 o4 o5
  cases zg with
  | false =>
    have HX : Hid ((p, e0) = (Pn.zero, 1)) := Lib.hid (by rw [← HR.out]; rw [cplan, if_neg (fun q => by rw [HZG.out] at q; cases q.2)])
    obtain ⟨h1, h2⟩ := Prod.mk.inj HX.out
    have HP := Lib.hid h1
    have HE := Lib.hid h2
    clear h1 h2 HX HR
    have HTH : Hid (w3.there g2 0 (#[.int .i64 0, .int .i64 0, .int .i64 0, .int .i64 0, .int .i64 0, .int .i64 0, .int .i64 0, .int .i64 0, .int .i64 0, .int .i64 0, .int .i64 0, .bool false, .int .u64 0, .int .u64 0, .int .u64 0, .int .u64 0, .int .u64 0] : Array Value).size) := Lib.hid (R3.out.there (n := 17) rfl)
    have HONE := Lib.hid (plan_one (0) (0) (0) (0) (0) (0) (0) (0) (0) (0) (0) (false) (0) (0) (0) (0) (0))
    go_wp2_with ((with_reducible change wpList _ _ _ _ _ _); refine wpList_store_mid (by rfl) 88 (.tmp 6) (.tmp 24) (by rfl) g2 0 #[.int .i64 0, .int .i64 0, .int .i64 0, .int .i64 0, .int .i64 0, .int .i64 0, .int .i64 0, .int .i64 0, .int .i64 0, .int .i64 0, .int .i64 0, .bool false, .int .u64 0, .int .u64 0, .int .u64 0, .int .u64 0, .int .u64 0] (by rfl) (by rfl) HTH.out info_plan HONE.out ?_; have qq := R3.out.setCells (vs := [.int .i64 0, .int .i64 0, .int .i64 0, .int .i64 0, .int .i64 0, .int .i64 0, .int .i64 0, .int .i64 0, .int .i64 0, .int .i64 0, .int .i64 0, .bool false, .int .u64 0, .int .u64 0, .int .u64 0, .int .u64 0, .int .u64 0]) rfl; change wpList _ _ _ _ _ (w3.setCells g2 0 [.int .i64 0, .int .i64 0, .int .i64 0, .int .i64 0, .int .i64 0, .int .i64 0, .int .i64 0, .int .i64 0, .int .i64 0, .int .i64 0, .int .i64 0, .bool false, .int .u64 0, .int .u64 0, .int .u64 0, .int .u64 0, .int .u64 0]); generalize w3.setCells g2 0 _ = wq at qq ⊢; have HQQ := Lib.hid qq; clear qq)
    refine bodyPost_ret (results_ct rfl _ _ _ (b := g2) (by rfl) HQQ.out.bx.range Tryz.underlying88 rfl info_plan) rfl ?_
    exact ⟨by rw [HP.out, HE.out]; rfl, HQQ.out.bx.old⟩
  | true =>
  obtain ⟨b0, b1, b2, c3, c4, -, -, lt⟩ := K3.out
  have o0 := C3.out.c 0 _ rfl
  have o1 := C3.out.c 1 _ rfl
  have o2 := C3.out.c 2 _ rfl
  have o3 := C3.out.c 3 _ rfl
  have o4 := C3.out.c 4 _ rfl
  have o5 := C3.out.c 5 _ rfl
  go_wp2_with fail
  obtain ⟨x1, y1, hroom⟩ : ∃ x1 y1, croom s t la = (x1, y1) := ⟨_, _, rfl⟩
  have HROOM := Lib.hid hroom
  clear hroom
  refine (roomat_is (HS.out.on K3.out.old) HNA.out HCA.out (HA.out.on K3.out.old) HROOM.out).mono ?_
  rintro e w4 ⟨rfl, hb⟩
  have K4 := Lib.hid (K3.out.on hb)
  have C4 := Lib.hid (C3.out.on hb)
  have R4 := Lib.hid (R3.out.on hb)
  clear hb K3 C3 R3 b0 b1 b2 c3 c4 lt o0 o1 o2 o3 o4 o5
  by_cases hy1 : y1 = 0
  case neg =>
    have hy2 : (y1 != 0) = true := by simpa using hy1
    have HX : Hid ((p, e0) = (Pn.zero, y1)) := Lib.hid (by rw [← HR.out]; rw [cplan, if_pos ⟨rfl, HZG.out⟩]; simp only [HROOM.out, if_neg hy1])
    obtain ⟨h1, h2⟩ := Prod.mk.inj HX.out
    have HP := Lib.hid h1
    have HE := Lib.hid h2
    clear h1 h2 HX HR
    have HTH : Hid (w4.there g2 0 (#[.int .i64 0, .int .i64 0, .int .i64 0, .int .i64 0, .int .i64 0, .int .i64 0, .int .i64 0, .int .i64 0, .int .i64 0, .int .i64 0, .int .i64 0, .bool false, .int .u64 0, .int .u64 0, .int .u64 0, .int .u64 0, .int .u64 0] : Array Value).size) := Lib.hid (R4.out.there (n := 17) rfl)
    have HONE := Lib.hid (plan_one (0) (0) (0) (0) (0) (0) (0) (0) (0) (0) (0) (false) (0) (0) (0) (0) (0))
    go_wp2_with ((with_reducible change wpList _ _ _ _ _ _); refine wpList_store_mid (by rfl) 88 (.tmp 6) (.tmp 35) (by rfl) g2 0 #[.int .i64 0, .int .i64 0, .int .i64 0, .int .i64 0, .int .i64 0, .int .i64 0, .int .i64 0, .int .i64 0, .int .i64 0, .int .i64 0, .int .i64 0, .bool false, .int .u64 0, .int .u64 0, .int .u64 0, .int .u64 0, .int .u64 0] (by rfl) (by rfl) HTH.out info_plan HONE.out ?_; have qq := R4.out.setCells (vs := [.int .i64 0, .int .i64 0, .int .i64 0, .int .i64 0, .int .i64 0, .int .i64 0, .int .i64 0, .int .i64 0, .int .i64 0, .int .i64 0, .int .i64 0, .bool false, .int .u64 0, .int .u64 0, .int .u64 0, .int .u64 0, .int .u64 0]) rfl; change wpList _ _ _ _ _ (w4.setCells g2 0 [.int .i64 0, .int .i64 0, .int .i64 0, .int .i64 0, .int .i64 0, .int .i64 0, .int .i64 0, .int .i64 0, .int .i64 0, .int .i64 0, .int .i64 0, .bool false, .int .u64 0, .int .u64 0, .int .u64 0, .int .u64 0, .int .u64 0]); generalize w4.setCells g2 0 _ = wq at qq ⊢; have HQQ := Lib.hid qq; clear qq)
    refine bodyPost_ret (results_ct rfl _ _ _ (b := g2) (by rfl) HQQ.out.bx.range Tryz.underlying88 rfl info_plan) rfl ?_
    exact ⟨by rw [HP.out, HE.out]; rfl, HQQ.out.bx.old⟩
  subst hy1
  obtain ⟨b0, b1, b2, c3, c4, -, -, lt⟩ := K4.out
  have o0 := C4.out.c 0 _ rfl
  have o1 := C4.out.c 1 _ rfl
  have o2 := C4.out.c 2 _ rfl
  have o3 := C4.out.c 3 _ rfl
  have o4 := C4.out.c 4 _ rfl
  have o5 := C4.out.c 5 _ rfl
  go_wp2_with fail
  obtain ⟨x2, y2, hemp⟩ : ∃ x2 y2, fempty s t lb = (x2, y2) := ⟨_, _, rfl⟩
  have HEMP := Lib.hid hemp
  clear hemp
  refine (empty_is (HS.out.on K4.out.old) HNB.out HCB.out (HB.out.on K4.out.old) HEMP.out).mono ?_
  rintro e w5 ⟨rfl, hb⟩
  have K5 := Lib.hid (K4.out.on hb)
  have C5 := Lib.hid (C4.out.on hb)
  have R5 := Lib.hid (R4.out.on hb)
  clear hb K4 C4 R4 b0 b1 b2 c3 c4 lt o0 o1 o2 o3 o4 o5
  by_cases hy2 : y2 = 0
  case neg =>
    have hy3 : (y2 != 0) = true := by simpa using hy2
    have HX : Hid ((p, e0) = (Pn.zero, y2)) := Lib.hid (by rw [← HR.out]; rw [cplan, if_pos ⟨rfl, HZG.out⟩]; simp only [HROOM.out, HEMP.out, if_neg hy2, if_true])
    obtain ⟨h1, h2⟩ := Prod.mk.inj HX.out
    have HP := Lib.hid h1
    have HE := Lib.hid h2
    clear h1 h2 HX HR
    have HTH : Hid (w5.there g2 0 (#[.int .i64 0, .int .i64 0, .int .i64 0, .int .i64 0, .int .i64 0, .int .i64 0, .int .i64 0, .int .i64 0, .int .i64 0, .int .i64 0, .int .i64 0, .bool false, .int .u64 0, .int .u64 0, .int .u64 0, .int .u64 0, .int .u64 0] : Array Value).size) := Lib.hid (R5.out.there (n := 17) rfl)
    have HONE := Lib.hid (plan_one (0) (0) (0) (0) (0) (0) (0) (0) (0) (0) (0) (false) (0) (0) (0) (0) (0))
    go_wp2_with ((with_reducible change wpList _ _ _ _ _ _); refine wpList_store_mid (by rfl) 88 (.tmp 6) (.tmp 47) (by rfl) g2 0 #[.int .i64 0, .int .i64 0, .int .i64 0, .int .i64 0, .int .i64 0, .int .i64 0, .int .i64 0, .int .i64 0, .int .i64 0, .int .i64 0, .int .i64 0, .bool false, .int .u64 0, .int .u64 0, .int .u64 0, .int .u64 0, .int .u64 0] (by rfl) (by rfl) HTH.out info_plan HONE.out ?_; have qq := R5.out.setCells (vs := [.int .i64 0, .int .i64 0, .int .i64 0, .int .i64 0, .int .i64 0, .int .i64 0, .int .i64 0, .int .i64 0, .int .i64 0, .int .i64 0, .int .i64 0, .bool false, .int .u64 0, .int .u64 0, .int .u64 0, .int .u64 0, .int .u64 0]) rfl; change wpList _ _ _ _ _ (w5.setCells g2 0 [.int .i64 0, .int .i64 0, .int .i64 0, .int .i64 0, .int .i64 0, .int .i64 0, .int .i64 0, .int .i64 0, .int .i64 0, .int .i64 0, .int .i64 0, .bool false, .int .u64 0, .int .u64 0, .int .u64 0, .int .u64 0, .int .u64 0]); generalize w5.setCells g2 0 _ = wq at qq ⊢; have HQQ := Lib.hid qq; clear qq)
    refine bodyPost_ret (results_ct rfl _ _ _ (b := g2) (by rfl) HQQ.out.bx.range Tryz.underlying88 rfl info_plan) rfl ?_
    exact ⟨by rw [HP.out, HE.out]; rfl, HQQ.out.bx.old⟩
  subst hy2
  obtain ⟨b0, b1, b2, c3, c4, -, -, lt⟩ := K5.out
  have o0 := C5.out.c 0 _ rfl
  have o1 := C5.out.c 1 _ rfl
  have o2 := C5.out.c 2 _ rfl
  have o3 := C5.out.c 3 _ rfl
  have o4 := C5.out.c 4 _ rfl
  have o5 := C5.out.c 5 _ rfl
  go_wp2_with fail
  obtain ⟨tc, htc⟩ : ∃ tc, tcost x y = tc := ⟨_, rfl⟩
  have HTC := Lib.hid htc
  clear htc
  refine (pcost_is HTC.out).mono ?_
  rintro e w6 ⟨rfl, hw6⟩
  subst hw6
  clear o0 o1 o2 o3 o4 o5
  simp only [cv]
  cases tc with
  | none =>
    simp only [Option.getD_none, Option.isSome_none]
    clear b0 b1 b2 c3 c4 lt
    have HX : Hid ((p, e0) = (Pn.zero, 1)) := Lib.hid (by rw [← HR.out]; rw [cplan, if_pos ⟨rfl, HZG.out⟩]; simp only [HROOM.out, HEMP.out, HTC.out, if_true])
    obtain ⟨h1, h2⟩ := Prod.mk.inj HX.out
    have HP := Lib.hid h1
    have HE := Lib.hid h2
    clear h1 h2 HX HR
    have HTH : Hid (w6.there g2 0 (#[.int .i64 0, .int .i64 0, .int .i64 0, .int .i64 0, .int .i64 0, .int .i64 0, .int .i64 0, .int .i64 0, .int .i64 0, .int .i64 0, .int .i64 0, .bool false, .int .u64 0, .int .u64 0, .int .u64 0, .int .u64 0, .int .u64 0] : Array Value).size) := Lib.hid (R5.out.there (n := 17) rfl)
    have HONE := Lib.hid (plan_one (0) (0) (0) (0) (0) (0) (0) (0) (0) (0) (0) (false) (0) (0) (0) (0) (0))
    go_wp2_with ((with_reducible change wpList _ _ _ _ _ _); refine wpList_store_mid (by rfl) 88 (.tmp 6) (.tmp 59) (by rfl) g2 0 #[.int .i64 0, .int .i64 0, .int .i64 0, .int .i64 0, .int .i64 0, .int .i64 0, .int .i64 0, .int .i64 0, .int .i64 0, .int .i64 0, .int .i64 0, .bool false, .int .u64 0, .int .u64 0, .int .u64 0, .int .u64 0, .int .u64 0] (by rfl) (by rfl) HTH.out info_plan HONE.out ?_; have qq := R5.out.setCells (vs := [.int .i64 0, .int .i64 0, .int .i64 0, .int .i64 0, .int .i64 0, .int .i64 0, .int .i64 0, .int .i64 0, .int .i64 0, .int .i64 0, .int .i64 0, .bool false, .int .u64 0, .int .u64 0, .int .u64 0, .int .u64 0, .int .u64 0]) rfl; change wpList _ _ _ _ _ (w6.setCells g2 0 [.int .i64 0, .int .i64 0, .int .i64 0, .int .i64 0, .int .i64 0, .int .i64 0, .int .i64 0, .int .i64 0, .int .i64 0, .int .i64 0, .int .i64 0, .bool false, .int .u64 0, .int .u64 0, .int .u64 0, .int .u64 0, .int .u64 0]); generalize w6.setCells g2 0 _ = wq at qq ⊢; have HQQ := Lib.hid qq; clear qq)
    refine bodyPost_ret (results_ct rfl _ _ _ (b := g2) (by rfl) HQQ.out.bx.range Tryz.underlying88 rfl info_plan) rfl ?_
    exact ⟨by rw [HP.out, HE.out]; rfl, HQQ.out.bx.old⟩
  | some co =>
  simp only [Option.getD_some, Option.isSome_some]
  go_wp2_with fail
  obtain ⟨uz, huz⟩ : ∃ uz, usedZ s x1 = uz := ⟨_, rfl⟩
  have HUZ := Lib.hid huz
  clear huz
  refine (used_is (HS.out.on K5.out.old) HUZ.out).mono ?_
  rintro e w7 ⟨rfl, hb⟩
  have K7 := Lib.hid (K5.out.on hb)
  have C7 := Lib.hid (C5.out.on hb)
  have R7 := Lib.hid (R5.out.on hb)
  clear hb K5 C5 R5 b0 b1 b2 c3 c4 lt
  obtain ⟨k, rfl, hk, hsg, hty⟩ := croom_slot HROOM.out
  obtain ⟨k2, rfl, hk2, -, -⟩ := fempty_slot HEMP.out
  have hF := (sgood_iff.1 hsg).fsl hk (by rw [hty]; decide)
  have hsm := used_small (k := (k : Int)) hsg (by simp only [roomB, Int.toNat_natCast, hty]; simp [hk])
  have hco := tcost_le HTC.out
  rw [HUZ.out] at hsm
  have hw64 : wrap64 (uz + co) = uz + co := w64_in (by omega) (by omega)
  have HTH : Hid ((slAt s.sl k).c.th = (thOf s k : Nat)) := Lib.hid (by have := hF.th0; rw [thOf]; omega)
  have HTL := Lib.hid hF.th
  have HK := Lib.hid hk
  clear hF hsm hco hty hsg hk hk2
  obtain ⟨b0, b1, b2, c3, c4, -, -, lt⟩ := K7.out
  go_wp2_with fail
  rw [hw64]
  clear hw64
  refine (roomin_is (HS.out.on K7.out.old) HK.out HTH.out HTL.out rfl).mono ?_
  rintro e w8 ⟨rfl, hb⟩
  have K8 := Lib.hid (K7.out.on hb)
  have C8 := Lib.hid (C7.out.on hb)
  have R8 := Lib.hid (R7.out.on hb)
  clear hb K7 C7 R7 b0 b1 b2 c3 c4 lt
  obtain ⟨rt, hrt⟩ : ∃ rt, thAt s.th (thOf s k) = rt := ⟨_, rfl⟩
  have HRT := Lib.hid hrt
  rw [hrt]
  clear hrt
  obtain ⟨ty, bits, base, size, used, frm, badge, full, word, d0, d1, d2, d3⟩ := rt
  simp only [Tng.val]
  have hfs := field_size ty bits base size used frm badge full word d0 d1 d2 d3
  by_cases hle : uz + co ≤ size
  case neg =>
    have hgt : size < uz + co := by omega
    have HX : Hid ((p, e0) = (Pn.zero, 8)) := Lib.hid (by rw [← HR.out]; rw [cplan, if_pos ⟨rfl, HZG.out⟩]; simp only [HROOM.out, HEMP.out, HTC.out, HUZ.out, HRT.out, if_true, Int.toNat_natCast, if_neg hle])
    obtain ⟨h1, h2⟩ := Prod.mk.inj HX.out
    have HP := Lib.hid h1
    have HE := Lib.hid h2
    clear h1 h2 HX HR
    have HTH : Hid (w8.there g2 0 (#[.int .i64 0, .int .i64 0, .int .i64 0, .int .i64 0, .int .i64 0, .int .i64 0, .int .i64 0, .int .i64 0, .int .i64 0, .int .i64 0, .int .i64 0, .bool false, .int .u64 0, .int .u64 0, .int .u64 0, .int .u64 0, .int .u64 0] : Array Value).size) := Lib.hid (R8.out.there (n := 17) rfl)
    have HONE := Lib.hid (plan_one (0) (0) (0) (0) (0) (0) (0) (0) (0) (0) (0) (false) (0) (0) (0) (0) (0))
    go_wp2_with ((with_reducible change wpList _ _ _ _ _ _); refine wpList_store_mid (by rfl) 88 (.tmp 6) (.tmp 71) (by rfl) g2 0 #[.int .i64 0, .int .i64 0, .int .i64 0, .int .i64 0, .int .i64 0, .int .i64 0, .int .i64 0, .int .i64 0, .int .i64 0, .int .i64 0, .int .i64 0, .bool false, .int .u64 0, .int .u64 0, .int .u64 0, .int .u64 0, .int .u64 0] (by rfl) (by rfl) HTH.out info_plan HONE.out ?_; have qq := R8.out.setCells (vs := [.int .i64 0, .int .i64 0, .int .i64 0, .int .i64 0, .int .i64 0, .int .i64 0, .int .i64 0, .int .i64 0, .int .i64 0, .int .i64 0, .int .i64 0, .bool false, .int .u64 0, .int .u64 0, .int .u64 0, .int .u64 0, .int .u64 0]) rfl; change wpList _ _ _ _ _ (w8.setCells g2 0 [.int .i64 0, .int .i64 0, .int .i64 0, .int .i64 0, .int .i64 0, .int .i64 0, .int .i64 0, .int .i64 0, .int .i64 0, .int .i64 0, .int .i64 0, .bool false, .int .u64 0, .int .u64 0, .int .u64 0, .int .u64 0, .int .u64 0]); generalize w8.setCells g2 0 _ = wq at qq ⊢; have HQQ := Lib.hid qq; clear qq)
    refine bodyPost_ret (results_ct rfl _ _ _ (b := g2) (by rfl) HQQ.out.bx.range Tryz.underlying88 rfl info_plan) rfl ?_
    exact ⟨by rw [HP.out, HE.out]; rfl, HQQ.out.bx.old⟩
  have hle2 : ¬ size < uz + co := by omega
  obtain ⟨b0, b1, b2, c3, c4, -, -, lt⟩ := K8.out
  have o0 := C8.out.c 0 _ rfl
  have o1 := C8.out.c 1 _ rfl
  have o2 := C8.out.c 2 _ rfl
  have o3 := C8.out.c 3 _ rfl
  have o4 := C8.out.c 4 _ rfl
  have o5 := C8.out.c 5 _ rfl
  go_wp2_with fail
  obtain ⟨nn, hnn⟩ : ∃ nn, cnum s x y = nn := ⟨_, rfl⟩
  have HNN := Lib.hid hnn
  clear hnn hfs
  refine (newthing_is (HS.out.on K8.out.old) HNN.out).mono ?_
  rintro e w9 ⟨⟨nz, hnz, rfl⟩, hb⟩
  have K9 := Lib.hid (K8.out.on hb)
  have C9 := Lib.hid (C8.out.on hb)
  have R9 := Lib.hid (R8.out.on hb)
  clear hb K8 C8 R8 b0 b1 b2 c3 c4 lt o0 o1 o2 o3 o4 o5
  obtain ⟨nt, hnt⟩ : ∃ nt, (nn.map fun q : Nat × Tng => q.2).getD Tng.zero = nt := ⟨_, rfl⟩
  have HNT := Lib.hid hnt
  rw [hnt]
  clear hnt
  obtain ⟨mty, mbits, mbase, msize, mused, mfrm, mbadge, mfull, mword, md0, md1, md2, md3⟩ := nt
  simp only [Tng.val]
  have J := Lib.hid (Bxs.new w9 [.int .i64 mty, .int .i64 mbits, .int .i64 mbase, .int .i64 msize, .int .i64 mused, .int .i64 mfrm, .int .i64 mbadge, .bool mfull, .int .u64 (mword : Int), .int .u64 (md0 : Int), .int .u64 (md1 : Int), .int .u64 (md2 : Int), .int .u64 (md3 : Int)] 45)
  have hb := below_alloc w9 (.cells #[.int .i64 mty, .int .i64 mbits, .int .i64 mbase, .int .i64 msize, .int .i64 mused, .int .i64 mfrm, .int .i64 mbadge, .bool mfull, .int .u64 (mword : Int), .int .u64 (md0 : Int), .int .u64 (md1 : Int), .int .u64 (md2 : Int), .int .u64 (md3 : Int)] 45)
  have K10 := Lib.hid (K9.out.on hb)
  have R10 := Lib.hid (R9.out.on hb)
  clear hb K9 C9 R9
  go_upto_region 16 with fail
  obtain ⟨jb, hjb⟩ : ∃ jb, jb = w9.heap.size := ⟨_, rfl⟩
  rw [← hjb] at J ⊢
  clear hjb
  generalize w9.alloc _ = w10 at J K10 R10 ⊢
  cases nn with
  | none =>
    have HX : Hid ((p, e0) = (Pn.zero, 8)) := Lib.hid (by rw [← HR.out]; rw [cplan, if_pos ⟨rfl, HZG.out⟩]; simp only [HROOM.out, HEMP.out, HTC.out, HUZ.out, HRT.out, HNN.out, if_true, Int.toNat_natCast, if_pos hle])
    obtain ⟨h1, h2⟩ := Prod.mk.inj HX.out
    have HP := Lib.hid h1
    have HE := Lib.hid h2
    clear h1 h2 HX HR
    have HTH : Hid (w10.there g2 0 (#[.int .i64 0, .int .i64 0, .int .i64 0, .int .i64 0, .int .i64 0, .int .i64 0, .int .i64 0, .int .i64 0, .int .i64 0, .int .i64 0, .int .i64 0, .bool false, .int .u64 0, .int .u64 0, .int .u64 0, .int .u64 0, .int .u64 0] : Array Value).size) := Lib.hid (R10.out.there (n := 17) rfl)
    have HONE := Lib.hid (plan_one (0) (0) (0) (0) (0) (0) (0) (0) (0) (0) (0) (false) (0) (0) (0) (0) (0))
    go_wp2_with ((with_reducible change wpList _ _ _ _ _ _); refine wpList_store_mid (by rfl) 88 (.tmp 6) (.tmp 84) (by rfl) g2 0 #[.int .i64 0, .int .i64 0, .int .i64 0, .int .i64 0, .int .i64 0, .int .i64 0, .int .i64 0, .int .i64 0, .int .i64 0, .int .i64 0, .int .i64 0, .bool false, .int .u64 0, .int .u64 0, .int .u64 0, .int .u64 0, .int .u64 0] (by rfl) (by rfl) HTH.out info_plan HONE.out ?_; have qq := R10.out.setCells (vs := [.int .i64 0, .int .i64 0, .int .i64 0, .int .i64 0, .int .i64 0, .int .i64 0, .int .i64 0, .int .i64 0, .int .i64 0, .int .i64 0, .int .i64 0, .bool false, .int .u64 0, .int .u64 0, .int .u64 0, .int .u64 0, .int .u64 0]) rfl; change wpList _ _ _ _ _ (w10.setCells g2 0 [.int .i64 0, .int .i64 0, .int .i64 0, .int .i64 0, .int .i64 0, .int .i64 0, .int .i64 0, .int .i64 0, .int .i64 0, .int .i64 0, .int .i64 0, .bool false, .int .u64 0, .int .u64 0, .int .u64 0, .int .u64 0, .int .u64 0]); generalize w10.setCells g2 0 _ = wq at qq ⊢; have HQQ := Lib.hid qq; clear qq)
    refine bodyPost_ret (results_ct rfl _ _ _ (b := g2) (by rfl) HQQ.out.bx.range Tryz.underlying88 rfl info_plan) rfl ?_
    exact ⟨by rw [HP.out, HE.out]; rfl, HQQ.out.bx.old⟩
  | some nm =>
  obtain ⟨num, nt⟩ := nm
  have hnz := hnz _ rfl
  simp only at hnz
  subst hnz
  have hnt : nt = ⟨mty, mbits, mbase, msize, mused, mfrm, mbadge, mfull, mword, md0, md1, md2, md3⟩ := HNT.out
  subst hnt
  have HX : Hid ((p, e0) = (⟨k, k2, uz + co, num, ⟨mty, mbits, mbase, msize, mused, mfrm, mbadge, mfull, mword, md0, md1, md2, md3⟩⟩, 0)) := Lib.hid (by rw [← HR.out, cplan, if_pos ⟨rfl, HZG.out⟩]; simp only [HROOM.out, HEMP.out, HTC.out, HUZ.out, HRT.out, HNN.out, if_true, Int.toNat_natCast, if_pos hle])
  obtain ⟨h1, h2⟩ := Prod.mk.inj HX.out
  have HP := Lib.hid h1
  have HE := Lib.hid h2
  clear h1 h2 HX HR HNT
  have j0 := J.out.c 0 _ rfl
  have j1 := J.out.c 1 _ rfl
  have j2 := J.out.c 2 _ rfl
  have j3 := J.out.c 3 _ rfl
  have j4 := J.out.c 4 _ rfl
  have j5 := J.out.c 5 _ rfl
  have j6 := J.out.c 6 _ rfl
  have j7 := J.out.c 7 _ rfl
  have j8 := J.out.c 8 _ rfl
  have j9 := J.out.c 9 _ rfl
  have j10 := J.out.c 10 _ rfl
  have j11 := J.out.c 11 _ rfl
  have j12 := J.out.c 12 _ rfl
  have HTH : Hid (w10.there g2 0 (#[.int .i64 (k : Int), .int .i64 (k2 : Int), .int .i64 (uz + co), .int .i64 (num : Int), .int .i64 mty, .int .i64 mbits, .int .i64 mbase, .int .i64 msize, .int .i64 mused, .int .i64 mfrm, .int .i64 mbadge, .bool mfull, .int .u64 (mword : Int), .int .u64 (md0 : Int), .int .u64 (md1 : Int), .int .u64 (md2 : Int), .int .u64 (md3 : Int)] : Array Value).size) := Lib.hid (R10.out.there (n := 17) rfl)
  have HONE := Lib.hid (plan_one ((k : Int)) ((k2 : Int)) ((uz + co)) ((num : Int)) (mty) (mbits) (mbase) (msize) (mused) (mfrm) (mbadge) (mfull) ((mword : Int)) ((md0 : Int)) ((md1 : Int)) ((md2 : Int)) ((md3 : Int)))
  go_wp2_with ((with_reducible change wpList _ _ _ _ _ _); refine wpList_store_mid (by rfl) 88 (.tmp 6) (.tmp 90) (by rfl) g2 0 #[.int .i64 (k : Int), .int .i64 (k2 : Int), .int .i64 (uz + co), .int .i64 (num : Int), .int .i64 mty, .int .i64 mbits, .int .i64 mbase, .int .i64 msize, .int .i64 mused, .int .i64 mfrm, .int .i64 mbadge, .bool mfull, .int .u64 (mword : Int), .int .u64 (md0 : Int), .int .u64 (md1 : Int), .int .u64 (md2 : Int), .int .u64 (md3 : Int)] (by rfl) (by rfl) HTH.out info_plan HONE.out ?_; have qq := R10.out.setCells (vs := [.int .i64 (k : Int), .int .i64 (k2 : Int), .int .i64 (uz + co), .int .i64 (num : Int), .int .i64 mty, .int .i64 mbits, .int .i64 mbase, .int .i64 msize, .int .i64 mused, .int .i64 mfrm, .int .i64 mbadge, .bool mfull, .int .u64 (mword : Int), .int .u64 (md0 : Int), .int .u64 (md1 : Int), .int .u64 (md2 : Int), .int .u64 (md3 : Int)]) rfl; change wpList _ _ _ _ _ (w10.setCells g2 0 [.int .i64 (k : Int), .int .i64 (k2 : Int), .int .i64 (uz + co), .int .i64 (num : Int), .int .i64 mty, .int .i64 mbits, .int .i64 mbase, .int .i64 msize, .int .i64 mused, .int .i64 mfrm, .int .i64 mbadge, .bool mfull, .int .u64 (mword : Int), .int .u64 (md0 : Int), .int .u64 (md1 : Int), .int .u64 (md2 : Int), .int .u64 (md3 : Int)]); generalize w10.setCells g2 0 _ = wq at qq ⊢; have HQQ := Lib.hid qq; clear qq)
  refine bodyPost_ret (results_ct rfl _ _ _ (b := g2) (by rfl) HQQ.out.bx.range Tryz.underlying88 rfl info_plan) rfl ?_
  exact ⟨by rw [HP.out, HE.out]; rfl, HQQ.out.bx.old⟩
end Go.Proofs.YtjnohbahjlidoaaGreat
namespace Go.Proofs.YtjnohbahjlidoaaGreat
open Go.RowKit

theorem Ost.base {W W1 w : World} {s : St} {P Q : Nat} (h : Ost W1 w s P Q) (hb : Below W.heap.size W W1) : Ost W w s P Q :=
  ⟨h.sl, h.th, h.Pf, h.Qf, h.PQ, Nat.le_trans hb.size h.oP, Nat.le_trans hb.size h.oQ, h.lP, h.lQ, below_on hb h.old⟩
theorem Bxs.fnd {W w w' : World} {g B : Nat} {cs : List Value} (h : Bxs W w g cs) (f : Fnd w w' B) (hne : g ≠ B) (hb : Below W.heap.size W w') : Bxs W w' g cs :=
  ⟨fun k u hk => (f.cell h.lt hne).trans (h.c k u hk), hb, h.base, Nat.lt_of_lt_of_le h.lt f.size⟩
theorem Wbs.fnd {W w w' : World} {g B : Nat} {cs : List Value} (h : Wbs W w g cs) (f : Fnd w w' B) (hne : g ≠ B) (hb : Below W.heap.size W w') : Wbs W w' g cs :=
  ⟨h.bx.fnd f hne hb, fun j => (f.frozen h.bx.lt hne).trans (h.free j)⟩
theorem Fnd.drew {w w' : World} {B : Nat} (f : Fnd w w' B) : Fnd w w'.drew B := f.trans (.of (below_self _).drew _)
theorem results_c {fn : Func} {c : Tmp} {ty : TypeId} (h : fn.results = #[.cell c ty]) (tmps : Array Value) (P : Program) (w : World) {b : Nat} {cs : List Value} {d : TypeDesc} (hp : tmps.getD c undef = .pointer (some ⟨b, 0, none⟩))
    (hc : w.rangeAt b 0 cs) (hu : P.underlying ty = some d) (hd : d.isRow = true) (hi : (P.info? ty).map (·.size) = some cs.length) : (results fn tmps).run P w = .ok (.agg cs.toArray) w := by
  have e := run_loadVar_mid w b 0 ty cs d hc hu hd hi
  have hp2 : tmps[c]?.getD undef = .pointer (some ⟨b, 0, none⟩) := by simpa using hp
  simp [results, h, hp2, asAddr, e]

set_option maxRecDepth 100000 in
set_option maxHeartbeats 8000000 in
theorem done_is {s : St} {a b c : Int} {A C : Option Addr} {n ca m cc : Nat} {p : Pn} {w : World} (hS : StH w s a b c A n ca C m cc)
    (hsrc : p.src < s.sl.length) (hth : 0 ≤ (slAt s.sl p.src).c.th) (hr : thOf s p.src < s.th.length) (hdst : p.dst < s.sl.length) (hnum : p.num < s.th.length) :
    Calls Tryz.prog 55 #[p.val, .agg #[.int .i64 a, .int .i64 b, .int .i64 c, .slice A n ca, .slice C m cc]] w fun e w' => CloneF w w' e a b c n m (cdone s p) := by
  have hn := hS.hn
  have hm := hS.hm
  have p0 := Bxs.new w [.int .i64 (p.src : Int), .int .i64 (p.dst : Int), .int .i64 p.used, .int .i64 (p.num : Int), .int .i64 p.made.ty, .int .i64 p.made.bits, .int .i64 p.made.base, .int .i64 p.made.size, .int .i64 p.made.used, .int .i64 p.made.frm, .int .i64 p.made.badge, .bool p.made.full, .int .u64 (p.made.word : Int), .int .u64 (p.made.d0 : Int), .int .u64 (p.made.d1 : Int), .int .u64 (p.made.d2 : Int), .int .u64 (p.made.d3 : Int)] 88
  have s1 := Bxs.more p0.old [.int .i64 a, .int .i64 b, .int .i64 c, .slice A n ca, .slice C m cc] 28
  rw [show (w.alloc (.cells [.int .i64 (p.src : Int), .int .i64 (p.dst : Int), .int .i64 p.used, .int .i64 (p.num : Int), .int .i64 p.made.ty, .int .i64 p.made.bits, .int .i64 p.made.base, .int .i64 p.made.size, .int .i64 p.made.used, .int .i64 p.made.frm, .int .i64 p.made.badge, .bool p.made.full, .int .u64 (p.made.word : Int), .int .u64 (p.made.d0 : Int), .int .u64 (p.made.d1 : Int), .int .u64 (p.made.d2 : Int), .int .u64 (p.made.d3 : Int)].toArray 88)).heap.size = w.heap.size + 1 by simp] at s1
  have r2 := Wbs.more s1.old [.int .i64 0, .int .i64 0, .int .i64 0, .slice none 0 0, .slice none 0 0] 28
  rw [show ((w.alloc (.cells [.int .i64 (p.src : Int), .int .i64 (p.dst : Int), .int .i64 p.used, .int .i64 (p.num : Int), .int .i64 p.made.ty, .int .i64 p.made.bits, .int .i64 p.made.base, .int .i64 p.made.size, .int .i64 p.made.used, .int .i64 p.made.frm, .int .i64 p.made.badge, .bool p.made.full, .int .u64 (p.made.word : Int), .int .u64 (p.made.d0 : Int), .int .u64 (p.made.d1 : Int), .int .u64 (p.made.d2 : Int), .int .u64 (p.made.d3 : Int)].toArray 88)).alloc (.cells [.int .i64 a, .int .i64 b, .int .i64 c, .slice A n ca, .slice C m cc].toArray 28)).heap.size = w.heap.size + 1 + 1 by simp] at r2
  have p2 := (p0.on (below_alloc _ (.cells #[.int .i64 a, .int .i64 b, .int .i64 c, .slice A n ca, .slice C m cc] 28))).on (below_alloc _ (.cells #[.int .i64 0, .int .i64 0, .int .i64 0, .slice none 0 0, .slice none 0 0] 28))
  have s2 := s1.on (below_alloc _ (.cells #[.int .i64 0, .int .i64 0, .int .i64 0, .slice none 0 0, .slice none 0 0] 28))
  obtain ⟨g, hg⟩ : ∃ g, g = w.heap.size := ⟨_, rfl⟩
  obtain ⟨g1, hg1⟩ : ∃ g1, g1 = w.heap.size + 1 := ⟨_, rfl⟩
  obtain ⟨g2, hg2⟩ : ∃ g2, g2 = w.heap.size + 1 + 1 := ⟨_, rfl⟩
  have HS := Lib.hid hS
  have H1 := Lib.hid hsrc
  have H2 := Lib.hid hth
  have H3 := Lib.hid hr
  have H4 := Lib.hid hdst
  have H5 := Lib.hid hnum
  have HN := Lib.hid hn
  have HM := Lib.hid hm
  clear hS hsrc hth hr hdst hnum p0 s1 hn hm
  unfold Pn.val
  go_enter Tryz.func55, Tryz.ntmps55
  go_upto_region 1 with fail
  rw [← hg2] at r2 ⊢
  rw [← hg1] at s2 ⊢
  clear hg1 hg2 hg
  generalize ((w.alloc _).alloc _).alloc _ = w3 at p2 s2 r2 ⊢
  have P3 := Lib.hid p2
  have S3 := Lib.hid s2
  have R3 := Lib.hid r2
  clear p2 s2 r2
  have s0 := S3.out.c 0 _ rfl
  have s1 := S3.out.c 1 _ rfl
  have s2 := S3.out.c 2 _ rfl
  have s3 := S3.out.c 3 _ rfl
  have s4 := S3.out.c 4 _ rfl
  go_wp2_with fail
  refine (pclone_is (HS.out.on P3.out.old)).mono ?_
  rintro e w4 ⟨A2, ca2, C2, cc2, rfl, hca, hcc, hF, hb⟩
  obtain ⟨P, Q, rfl, rfl, hO⟩ := hF.ost (by have := H4.out; omega) (by have := H5.out; omega) hb
  have HCA := Lib.hid hca
  have HCC := Lib.hid hcc
  have hal := below_alloc w4 (.cells #[.int .i64 a, .int .i64 b, .int .i64 c, .slice (some ⟨P, 0, none⟩) n ca2, .slice (some ⟨Q, 0, none⟩) m cc2] 28)
  have P5 := Lib.hid ((P3.out.on hb).on hal)
  have S5 := Lib.hid ((S3.out.on hb).on hal)
  have R5 := Lib.hid ((R3.out.on hb).on hal)
  have O5 := Lib.hid ((hO.base P3.out.old).on hal)
  have N5 := Lib.hid (Bxs.more (P3.out.on hb).old [.int .i64 a, .int .i64 b, .int .i64 c, .slice (some ⟨P, 0, none⟩) n ca2, .slice (some ⟨Q, 0, none⟩) m cc2] 28)
  have NE : Hid (w.heap.size ≠ P ∧ w.heap.size ≠ Q ∧ g2 ≠ P ∧ g2 ≠ Q ∧ w4.heap.size ≠ P ∧ w4.heap.size ≠ Q ∧ g2 ≠ w4.heap.size) := Lib.hid (by
    have e1 := P3.out.lt
    have e2 := R3.out.bx.lt
    have e3 := hO.oP
    have e4 := hO.oQ
    have e5 := hO.lP
    have e6 := hO.lQ
    have e7 := hb.size
    omega)
  clear hca hcc hF hb hal hO s0 s1 s2 s3 s4 P3 S3 R3
  go_upto_region 2 with fail
  obtain ⟨q, hq⟩ : ∃ q, q = w4.heap.size := ⟨_, rfl⟩
  rw [← hq] at N5 NE ⊢
  clear hq
  generalize w4.alloc _ = w5 at P5 S5 R5 O5 N5 ⊢
  obtain ⟨sb, sp, rfl, hsb, hc⟩ := HS.out.lies.sl (by have := H1.out; omega)
  have z1 := (hc p.src H1.out).c1
  have z1 := (P5.out.old.cell (p := ⟨sb, sp + p.src * 5 + 1, none⟩) hsb).trans z1
  obtain ⟨rr, hrr⟩ : ∃ rr, thOf s p.src = rr := ⟨_, rfl⟩
  have hrt : (slAt s.sl p.src).c.th = (rr : Int) := by have := H2.out; rw [← hrr, thOf]; omega
  rw [hrt] at z1
  have HRR := Lib.hid hrr
  have hrl : rr < s.th.length := by rw [← hrr]; exact H3.out
  have HRL := Lib.hid hrl
  have u4 := O5.out.th rr hrl 4 _ rfl
  have uf := O5.out.Qf (rr * 13 + 4)
  have x1 : (p.src : Int) < (n : Int) := by have := H1.out; have := HN.out; omega
  have x2 : (rr : Int) < (m : Int) := by have := HM.out; omega
  have O6 := Lib.hid ((O5.out.putT1 (i := rr) hrl 4 (by decide) (.int .i64 p.used) (usedAs (thAt s.th rr) p.used) rfl).on (below_self _).drew)
  have f6 := (Fnd.mark w5 Q (rr * 13 + 4) (.int .i64 p.used)).drew
  have P6 := Lib.hid (P5.out.fnd f6 NE.out.2.1 O6.out.old)
  have R6 := Lib.hid (R5.out.fnd f6 NE.out.2.2.2.1 O6.out.old)
  have N6 := Lib.hid (N5.out.fnd f6 NE.out.2.2.2.2.2.1 O6.out.old)
  clear hc hsb hrr hrt hrl f6
  have p0 := P5.out.c 0 _ rfl
  have p2 := P5.out.c 2 _ rfl
  have s3 := S5.out.c 3 _ rfl
  have n4 := N5.out.c 4 _ rfl
  go_region
  clear z1 u4 uf x1 x2 p0 p2 s3 n4
  generalize (w5.setCell _ _).drew = w6 at O6 P6 R6 N6 ⊢
  have y1 : (p.num : Int) < (m : Int) := by have := H5.out; have := HM.out; omega
  have hnl : p.num < (s.th.set rr (usedAs (thAt s.th rr) p.used)).length := by rw [List.length_set]; exact H5.out
  have HT3 : Hid (w6.there Q (p.num * 13) (#[.int .i64 p.made.ty, .int .i64 p.made.bits, .int .i64 p.made.base, .int .i64 p.made.size, .int .i64 p.made.used, .int .i64 p.made.frm, .int .i64 p.made.badge, .bool p.made.full, .int .u64 (p.made.word : Int), .int .u64 (p.made.d0 : Int), .int .u64 (p.made.d1 : Int), .int .u64 (p.made.d2 : Int), .int .u64 (p.made.d3 : Int)] : Array Value).size) := Lib.hid (O6.out.thereT hnl)
  have HO3 := Lib.hid (thing_one p.made.ty p.made.bits p.made.base p.made.size p.made.used p.made.frm p.made.badge p.made.full p.made.word p.made.d0 p.made.d1 p.made.d2 p.made.d3)
  have O7 := Lib.hid (O6.out.putT hnl p.made)
  have f7 := Fnd.setCells Q (thist p.made) (p.num * 13) w6
  have P7 := Lib.hid (P6.out.fnd f7 NE.out.2.1 O7.out.old)
  have R7 := Lib.hid (R6.out.fnd f7 NE.out.2.2.2.1 O7.out.old)
  have N7 := Lib.hid (N6.out.fnd f7 NE.out.2.2.2.2.2.1 O7.out.old)
  clear hnl f7
  have p3 := P6.out.c 3 _ rfl
  have p4 := P6.out.c 4 _ rfl
  have p5 := P6.out.c 5 _ rfl
  have p6 := P6.out.c 6 _ rfl
  have p7 := P6.out.c 7 _ rfl
  have p8 := P6.out.c 8 _ rfl
  have p9 := P6.out.c 9 _ rfl
  have p10 := P6.out.c 10 _ rfl
  have p11 := P6.out.c 11 _ rfl
  have p12 := P6.out.c 12 _ rfl
  have p13 := P6.out.c 13 _ rfl
  have p14 := P6.out.c 14 _ rfl
  have p15 := P6.out.c 15 _ rfl
  have p16 := P6.out.c 16 _ rfl
  have n4 := N6.out.c 4 _ rfl
  go_upto_region 4 with ((with_reducible change wpList _ _ _ _ _ _); refine wpList_store_mid (by rfl) 45 (.tmp 28) (.tmp 27) (by rfl) Q (p.num * 13) #[.int .i64 p.made.ty, .int .i64 p.made.bits, .int .i64 p.made.base, .int .i64 p.made.size, .int .i64 p.made.used, .int .i64 p.made.frm, .int .i64 p.made.badge, .bool p.made.full, .int .u64 (p.made.word : Int), .int .u64 (p.made.d0 : Int), .int .u64 (p.made.d1 : Int), .int .u64 (p.made.d2 : Int), .int .u64 (p.made.d3 : Int)] (by rfl) (by rfl) HT3.out info_thing HO3.out ?_; change wpList _ _ _ _ _ (w6.setCells Q (p.num * 13) (thist p.made)); generalize w6.setCells Q (p.num * 13) (thist p.made) = w7 at O7 P7 R7 N7 ⊢)
  clear HT3 HO3 y1 p3 p4 p5 p6 p7 p8 p9 p10 p11 p12 p13 p14 p15 p16 n4 P6 R6 N6 O6
  have y2 : (p.dst : Int) < (n : Int) := by have := H4.out; have := HN.out; omega
  have HT4 : Hid (w7.there P (p.dst * 5) (#[.int .i64 p.made.ty, .int .i64 (p.num : Int), .int .i64 7, .int .i64 0, .int .i64 (p.src : Int)] : Array Value).size) := Lib.hid (O7.out.thereS H4.out)
  have HO4 := Lib.hid (slot_one p.made.ty p.num 7 0 p.src)
  have O8 := Lib.hid (O7.out.putS H4.out ⟨⟨p.made.ty, p.num, 7, 0⟩, p.src⟩)
  have f8 := Fnd.setCells P (slist ⟨⟨p.made.ty, p.num, 7, 0⟩, p.src⟩) (p.dst * 5) w7
  have R8 := Lib.hid (R7.out.fnd f8 NE.out.2.2.1 O8.out.old)
  have N8 := Lib.hid (N7.out.fnd f8 NE.out.2.2.2.2.1 O8.out.old)
  clear f8
  have p0 := P7.out.c 0 _ rfl
  have p1 := P7.out.c 1 _ rfl
  have p3 := P7.out.c 3 _ rfl
  have p4 := P7.out.c 4 _ rfl
  have n3 := N7.out.c 3 _ rfl
  go_upto_region 5 with ((with_reducible change wpList _ _ _ _ _ _); refine wpList_store_mid (by rfl) 52 (.tmp 42) (.tmp 41) (by rfl) P (p.dst * 5) #[.int .i64 p.made.ty, .int .i64 (p.num : Int), .int .i64 7, .int .i64 0, .int .i64 (p.src : Int)] (by rfl) (by rfl) HT4.out info_slot HO4.out ?_; change wpList _ _ _ _ _ (w7.setCells P (p.dst * 5) (slist ⟨⟨p.made.ty, p.num, 7, 0⟩, p.src⟩)); generalize w7.setCells P (p.dst * 5) (slist _) = w8 at O8 R8 N8 ⊢)
  clear HT4 HO4 y2 p0 p1 p3 p4 n3 P7 R7 N7 O7
  have HT5 : Hid (w8.there g2 0 (#[.int .i64 a, .int .i64 b, .int .i64 c, .slice (some ⟨P, 0, none⟩) n ca2, .slice (some ⟨Q, 0, none⟩) m cc2] : Array Value).size) := Lib.hid (R8.out.there (n := 5) rfl)
  have HO5 := Lib.hid (state_one a b c (some ⟨P, 0, none⟩) n ca2 (some ⟨Q, 0, none⟩) m cc2)
  have R9 := Lib.hid (R8.out.setCells (vs := [.int .i64 a, .int .i64 b, .int .i64 c, .slice (some ⟨P, 0, none⟩) n ca2, .slice (some ⟨Q, 0, none⟩) m cc2]) rfl)
  have O9 := Lib.hid (O8.out.step (Fnd.setCells g2 [.int .i64 a, .int .i64 b, .int .i64 c, .slice (some ⟨P, 0, none⟩) n ca2, .slice (some ⟨Q, 0, none⟩) m cc2] 0 w8) NE.out.2.2.1.symm NE.out.2.2.2.1.symm R9.out.bx.old)
  have n0 := N8.out.c 0 _ rfl
  have n1 := N8.out.c 1 _ rfl
  have n2 := N8.out.c 2 _ rfl
  have n3 := N8.out.c 3 _ rfl
  have n4 := N8.out.c 4 _ rfl
  go_wp2_with ((with_reducible change wpList _ _ _ _ _ _); refine wpList_store_mid (by rfl) 28 (.tmp 4) (.tmp 43) (by rfl) g2 0 #[.int .i64 a, .int .i64 b, .int .i64 c, .slice (some ⟨P, 0, none⟩) n ca2, .slice (some ⟨Q, 0, none⟩) m cc2] (by rfl) (by rfl) HT5.out info_state HO5.out ?_; change wpList _ _ _ _ _ (w8.setCells g2 0 [.int .i64 a, .int .i64 b, .int .i64 c, .slice (some ⟨P, 0, none⟩) n ca2, .slice (some ⟨Q, 0, none⟩) m cc2]); generalize w8.setCells g2 0 _ = w9 at R9 O9 ⊢)
  refine bodyPost_ret (results_c rfl _ _ _ (b := g2) (by rfl) R9.out.bx.range Tryz.underlying28 rfl info_state) rfl ?_
  refine ⟨_, _, _, _, rfl, HCA.out, HCC.out, ?_, R9.out.bx.old⟩
  have h := O9.out.fsh
  rw [cdone, HRR.out]
  exact h
end Go.Proofs.YtjnohbahjlidoaaGreat
namespace Go.Proofs.YtjnohbahjlidoaaGreat
open Go.RowKit

theorem fslot_owned {s : St} {t x : Int} {l : List Int} (h : fslot s t l = (x, 0)) : (ownerN s.th x).isSome = true := by
  rw [fslot] at h
  split at h
  · rename_i hc
    obtain ⟨hg, h0, h1⟩ := fthread_iff.1 hc.1
    have hG := sgood_iff.1 hg
    rcases hw : fwhere s t l with _ | k
    · rw [hw, fpair] at h
      cases h
    · rw [hw, fpair] at h
      obtain ⟨rfl, -⟩ := Prod.mk.inj h
      rw [fwhere, show (2 + t).toNat = 2 + t.toNat by omega] at hw
      exact (ffol_owned hG (nd_root hG (by omega)) (pgood_iff.1 hc.2).2.2 hw).2
  · cases h
theorem fempty_owned {s : St} {t x : Int} {l : List Int} (h : fempty s t l = (x, 0)) : (ownerN s.th x).isSome = true := by
  unfold fempty at h
  split at h
  · rename_i h3
    split at h
    · obtain ⟨h5, -⟩ := Prod.mk.inj h
      rw [← h5]
      exact fslot_owned (t := t) (l := l) (Prod.ext rfl h3)
    · obtain ⟨-, h⟩ := Prod.mk.inj h
      cases h
  · rename_i h3
    exact absurd (Prod.mk.inj h).2 h3
theorem tcost_kind {k y q : Int} (h : tcost k y = some q) : 1 ≤ k ∧ k ≤ 5 := by
  unfold tcost at h
  split at h
  · omega
  · split at h
    · omega
    · split at h
      · omega
      · split at h
        · omega
        · split at h
          · omega
          · cases h
theorem tnew_is {k y b : Int} {t : Tng} (h : tnew k y b = some t) : t = tnewt k y b ∧ t.good = true := by
  rw [tnew] at h
  split at h
  · rename_i h1
    injection h with h
    exact ⟨h.symm, by rw [← h]; exact h1.2⟩
  · cases h
theorem tnewt_facts (k y b : Int) : (tnewt k y b).ty = k ∧ (tnewt k y b).frm = 0 ∧ (k = 2 → (tnewt k y b).bits = y ∧ (tnewt k y b).base = b) := by
  unfold tnewt
  split
  · rename_i h
    subst h
    exact ⟨rfl, rfl, fun h => by cases h⟩
  · split
    · rename_i h
      subst h
      exact ⟨rfl, rfl, fun _ => ⟨rfl, rfl⟩⟩
    · rename_i h
      exact ⟨rfl, rfl, fun q => absurd q h⟩
theorem gapN_free {s : St} {y : Int} {b : Nat} (h : gapN s y = some b) : ∀ k : Nat, b ≤ k → (k : Int) < b + tw2 y → k < s.sl.length ∧ ownerN s.th (k : Int) = none := by
  rw [gapN] at h
  split at h
  · rename_i hy
    have hy := inr3_iff.1 hy
    obtain ⟨N, hN, hN2, -⟩ := tw2_is hy.1 hy.2
    rw [hN, Int.toNat_natCast, gapF] at h
    have h1 := List.mem_range.1 (List.mem_of_find?_eq_some h)
    have h2 := gapAt_iff.1 (List.find?_some h)
    intro k hk hk2
    rw [hN] at hk2
    have h3 := h2 k hk (by omega)
    refine ⟨by omega, ?_⟩
    simpa [ownd] using h3
  · cases h
/-- all that a plan is -/
structure Plan (s : St) (t : Int) (c : Cl) (p : Pn) (k : Int) : Prop where
  op : c.op = 1
  good : cgood c = true
  room : croom s t c.a = ((p.src : Int), 0)
  emp : fempty s t c.b = ((p.dst : Int), 0)
  cost : tcost c.x c.y = some k
  used : p.used = usedZ s p.src + k
  us : p.used ≤ (thAt s.th (thOf s p.src)).size
  num : cnum s c.x c.y = some (p.num, p.made)
theorem cplan_ok {s : St} {t : Int} {c : Cl} {p : Pn} (h : cplan s t c = (p, 0)) : ∃ k, Plan s t c p k := by
  unfold cplan at h
  split at h
  · rename_i h1
    split at h
    · rename_i h2
      split at h
      · rename_i h3
        obtain ⟨i, hi, -⟩ := croom_slot (s := s) (t := t) (l := c.a) (x := (croom s t c.a).1) (Prod.ext rfl h2)
        obtain ⟨j, hj, -⟩ := fempty_slot (s := s) (t := t) (l := c.b) (x := (fempty s t c.b).1) (Prod.ext rfl h3)
        split at h
        · obtain ⟨-, h⟩ := Prod.mk.inj h; cases h
        · rename_i k hk
          split at h
          · rename_i h4
            split at h
            · obtain ⟨-, h⟩ := Prod.mk.inj h; cases h
            · rename_i n m hn
              obtain ⟨rfl, -⟩ := Prod.mk.inj h
              rw [hi] at h4
              refine ⟨k, h1.1, h1.2, ?_, ?_, hk, ?_, ?_, hn⟩
              · exact Prod.ext (by simp only [hi, Int.toNat_natCast]) h2
              · exact Prod.ext (by simp only [hj, Int.toNat_natCast]) h3
              · simp only [hi, Int.toNat_natCast]
              · simp only [hi, Int.toNat_natCast] at h4 ⊢
                exact h4
          · obtain ⟨-, h⟩ := Prod.mk.inj h; cases h
      · rename_i h3
        exact absurd (Prod.mk.inj h).2 h3
    · rename_i h3
      exact absurd (Prod.mk.inj h).2 h3
  · obtain ⟨-, h⟩ := Prod.mk.inj h; cases h
theorem Plan.mks {s : St} {t : Int} {c : Cl} {p : Pn} {k : Int} (h : Plan s t c p k) : Gst s ∧ Mks s p := by
  obtain ⟨i, hi, hil, hg, hty⟩ := croom_slot h.room
  obtain ⟨j, hj, hjl, -, hnon⟩ := fempty_slot h.emp
  have hi' : p.src = i := by omega
  have hj' : p.dst = j := by omega
  have G := sgood_iff.1 hg
  have hnum := h.num
  unfold cnum at hnum
  have hkind := tcost_kind h.cost
  have hu := used_small (s := s) (k := (p.src : Int)) hg (by simp only [roomB, Int.toNat_natCast, hi', hty]; simp [hil])
  have hk := tcost_le h.cost
  rcases hb : cbase s c.x c.y with _ | b
  · rw [hb] at hnum; cases hnum
  rw [hb] at hnum
  rcases hf : sfree s with _ | n
  · rw [hf] at hnum; cases hnum
  rw [hf] at hnum
  simp only [Option.map_eq_some_iff] at hnum
  obtain ⟨m, hm, e⟩ := hnum
  obtain ⟨e1, e2⟩ := Prod.mk.inj e
  subst e1 e2
  have hfree := hf
  rw [sfree, if_pos hg] at hfree
  obtain ⟨f1, f2, -⟩ := freeN_some.1 hfree
  obtain ⟨g1, g2⟩ := tnew_is hm
  obtain ⟨t1, t2, t3⟩ := tnewt_facts c.x c.y b
  rw [← g1] at t1 t2 t3
  refine ⟨G, by rw [hi']; exact hil, by rw [hi']; exact hty, by rw [hj']; exact hjl, by rw [hj']; exact hnon, fempty_owned h.emp, f1, f2, by omega, g2, t2, fun q => ?_, by rw [h.used]; omega, h.us⟩
  have hx : c.x = 2 := by omega
  obtain ⟨q1, q2⟩ := t3 hx
  rw [cbase, if_pos hx, sgap, if_pos hg] at hb
  rcases hgp : gapN s c.y with _ | v
  · rw [hgp] at hb; cases hb
  rw [hgp] at hb
  obtain rfl : (v : Int) = b := by simpa using hb
  rw [q1, q2]
  intro z hz hz2
  exact gapN_free hgp z (by omega) hz2
/-- a reply -/
structure Rep where
  err : Int
  w : Nat
  n : Int
def Rep.val (q : Rep) : Value := .agg #[.int .i64 q.err, .int .u64 (q.w : Int), .int .i64 q.n]
/-- a new state, or none where it is as it was, and the reply -/
def cdo (s : St) (t : Int) (c : Cl) : Option St × Rep :=
  if (cplan s t c).2 = 0 then (some (cdone s (cplan s t c).1), ⟨0, 0, (cplan s t c).1.num⟩) else (none, ⟨(cplan s t c).2, 0, 0⟩)
theorem cdo_good {s s' : St} {t : Int} {c : Cl} {q : Rep} (h : cdo s t c = (some s', q)) : Gst s' := by
  rw [cdo] at h
  split at h
  · rename_i h1
    obtain ⟨h2, -⟩ := Prod.mk.inj h
    injection h2 with h2
    obtain ⟨k, hk⟩ := cplan_ok (p := (cplan s t c).1) (Prod.ext rfl h1)
    rw [← h2]
    exact hk.mks.2.good hk.mks.1
  · obtain ⟨h2, -⟩ := Prod.mk.inj h
    cases h2
/-- how a call's answer is handed back -/
def DoF (w w' : World) (e : Ending) (a b c : Int) (A : Option Addr) (n ca : Nat) (C : Option Addr) (m cc : Nat) (r : Option St × Rep) : Prop :=
  ∃ A' ca' C' cc', e = .returned (.tuple #[.agg #[.int .i64 a, .int .i64 b, .int .i64 c, .slice A' n ca', .slice C' m cc'], r.2.val]) ∧ Below w.heap.size w w' ∧
    match r.1 with
    | none => A' = A ∧ ca' = ca ∧ C' = C ∧ cc' = cc
    | some s' => n ≤ ca' ∧ m ≤ cc' ∧ Fsh w w' s' A' C'
theorem Fsh.fnd {W w w' : World} {s : St} {A C : Option Addr} {g : Nat} (h : Fsh W w s A C) (f : Fnd w w' g) (hg : g < W.heap.size) : Fsh W w' s A C :=
  ⟨⟨h.lies.sl.fnd f fun h0 => by obtain ⟨b, h1, h2, _⟩ := h.sl h0; exact ⟨b, h1, by omega⟩, h.lies.th.fnd f fun h0 => by obtain ⟨b, h1, h2, _⟩ := h.th h0; exact ⟨b, h1, by omega⟩⟩,
   fun h0 => by obtain ⟨b, h1, h2, h3, h4⟩ := h.sl h0; exact ⟨b, h1, h2, Nat.lt_of_lt_of_le h3 f.size, fun j => by rw [World.frozen?_of_block (w := w) (a := ⟨b, j, none⟩) (f.block b h3 (by omega))]; exact h4 j⟩,
   fun h0 => by obtain ⟨b, h1, h2, h3, h4⟩ := h.th h0; exact ⟨b, h1, h2, Nat.lt_of_lt_of_le h3 f.size, fun j => by rw [World.frozen?_of_block (w := w) (a := ⟨b, j, none⟩) (f.block b h3 (by omega))]; exact h4 j⟩, h.ne⟩
theorem Fsh.base {W W' w : World} {s : St} {A C : Option Addr} (h : Fsh W w s A C) (hW : W'.heap.size ≤ W.heap.size) : Fsh W' w s A C :=
  ⟨h.lies, fun h0 => by obtain ⟨b, h1, h2, h3, h4⟩ := h.sl h0; exact ⟨b, h1, by omega, h3, h4⟩, fun h0 => by obtain ⟨b, h1, h2, h3, h4⟩ := h.th h0; exact ⟨b, h1, by omega, h3, h4⟩, h.ne⟩
end Go.Proofs.YtjnohbahjlidoaaGreat
namespace Go.Proofs.YtjnohbahjlidoaaGreat
open Go.RowKit

set_option maxRecDepth 100000 in
set_option maxHeartbeats 16000000 in
theorem do_is {s : St} {a b c : Int} {A C : Option Addr} {n ca m cc : Nat} {t o x y : Int} {PA PB : Option Addr} {na cpa nb cpb z : Nat} {la lb : List Int} {r : Option St × Rep} {w : World} (hS : StH w s a b c A n ca C m cc)
    (hna : na = la.length) (hcpa : na ≤ cpa) (hA : IntsAt w w.heap.size PA la) (hnb : nb = lb.length) (hcpb : nb ≤ cpb) (hB : IntsAt w w.heap.size PB lb) (hr : cdo s t ⟨o, la, lb, x, y, z⟩ = r) :
    Calls Tryz.prog 21 #[.agg #[.int .i64 a, .int .i64 b, .int .i64 c, .slice A n ca, .slice C m cc], .int .i64 t, .agg #[.int .i64 o, .slice PA na cpa, .slice PB nb cpb, .int .i64 x, .int .i64 y, .int .u64 (z : Int)]] w fun e w' => DoF w w' e a b c A n ca C m cc r := by
  have HS := Lib.hid hS
  have HNA := Lib.hid hna
  have HNB := Lib.hid hnb
  have HCPA := Lib.hid hcpa
  have HCPB := Lib.hid hcpb
  have HA := Lib.hid hA
  have HB := Lib.hid hB
  obtain ⟨p, e0, hp⟩ : ∃ p e0, cplan s t ⟨o, la, lb, x, y, z⟩ = (p, e0) := ⟨_, _, rfl⟩
  have HP := Lib.hid hp
  have HR : Hid (r = if e0 = 0 then (some (cdone s p), ⟨0, 0, p.num⟩) else (none, ⟨e0, 0, 0⟩)) := Lib.hid (by rw [← hr, cdo, hp])
  have t0 := Bxs.new w [.int .i64 a, .int .i64 b, .int .i64 c, .slice A n ca, .slice C m cc] 28
  have c1 := Bxs.more t0.old [.int .i64 o, .slice PA na cpa, .slice PB nb cpb, .int .i64 x, .int .i64 y, .int .u64 (z : Int)] 41
  rw [show (w.alloc (.cells [.int .i64 a, .int .i64 b, .int .i64 c, .slice A n ca, .slice C m cc].toArray 28)).heap.size = w.heap.size + 1 by simp] at c1
  have r2a := Wbs.more c1.old [.int .i64 0, .int .i64 0, .int .i64 0, .slice none 0 0, .slice none 0 0] 28
  rw [show ((w.alloc (.cells [.int .i64 a, .int .i64 b, .int .i64 c, .slice A n ca, .slice C m cc].toArray 28)).alloc (.cells [.int .i64 o, .slice PA na cpa, .slice PB nb cpb, .int .i64 x, .int .i64 y, .int .u64 (z : Int)].toArray 41)).heap.size = w.heap.size + 1 + 1 by simp] at r2a
  have r3 := Wbs.more r2a.bx.old [.int .i64 0, .int .u64 0, .int .i64 0] 33
  rw [show (((w.alloc (.cells [.int .i64 a, .int .i64 b, .int .i64 c, .slice A n ca, .slice C m cc].toArray 28)).alloc (.cells [.int .i64 o, .slice PA na cpa, .slice PB nb cpb, .int .i64 x, .int .i64 y, .int .u64 (z : Int)].toArray 41)).alloc (.cells [.int .i64 0, .int .i64 0, .int .i64 0, .slice none 0 0, .slice none 0 0].toArray 28)).heap.size = w.heap.size + 1 + 1 + 1 by simp] at r3
  have b3 := below_alloc (((w.alloc (.cells [.int .i64 a, .int .i64 b, .int .i64 c, .slice A n ca, .slice C m cc].toArray 28)).alloc (.cells [.int .i64 o, .slice PA na cpa, .slice PB nb cpb, .int .i64 x, .int .i64 y, .int .u64 (z : Int)].toArray 41)).alloc (.cells [.int .i64 0, .int .i64 0, .int .i64 0, .slice none 0 0, .slice none 0 0].toArray 28)) (.cells #[.int .i64 0, .int .u64 0, .int .i64 0] 33)
  have t3 := ((t0.on (below_alloc _ (.cells #[.int .i64 o, .slice PA na cpa, .slice PB nb cpb, .int .i64 x, .int .i64 y, .int .u64 (z : Int)] 41))).on (below_alloc _ (.cells #[.int .i64 0, .int .i64 0, .int .i64 0, .slice none 0 0, .slice none 0 0] 28))).on b3
  have c3 := (c1.on (below_alloc _ (.cells #[.int .i64 0, .int .i64 0, .int .i64 0, .slice none 0 0, .slice none 0 0] 28))).on b3
  have r2 := r2a.on b3
  obtain ⟨g5, hg5⟩ : ∃ g5, g5 = w.heap.size + 1 := ⟨_, rfl⟩
  obtain ⟨g6, hg6⟩ : ∃ g6, g6 = w.heap.size + 1 + 1 := ⟨_, rfl⟩
  obtain ⟨g7, hg7⟩ : ∃ g7, g7 = w.heap.size + 1 + 1 + 1 := ⟨_, rfl⟩
  have hne : w.heap.size ≠ g6 ∧ w.heap.size ≠ g7 ∧ g6 ≠ g7 := by omega
  clear hS hna hnb hcpa hcpb hA hB hr hp t0 c1 b3 r2a
  go_enter Tryz.func21, Tryz.ntmps21
  go_upto_region 1 with fail
  rw [← hg7] at r3 ⊢
  rw [← hg6] at r2 ⊢
  rw [← hg5] at c3 ⊢
  clear hg5 hg6 hg7
  generalize (((w.alloc _).alloc _).alloc _).alloc _ = w4 at t3 c3 r2 r3 ⊢
  have T4 := Lib.hid t3
  have C4 := Lib.hid c3
  have R64 := Lib.hid r2
  have R74 := Lib.hid r3
  clear t3 c3 r2 r3
  have t0 := T4.out.c 0 _ rfl
  have t1 := T4.out.c 1 _ rfl
  have t2 := T4.out.c 2 _ rfl
  have t3 := T4.out.c 3 _ rfl
  have t4 := T4.out.c 4 _ rfl
  have k0 := C4.out.c 0 _ rfl
  have k1 := C4.out.c 1 _ rfl
  have k2 := C4.out.c 2 _ rfl
  have k3 := C4.out.c 3 _ rfl
  have k4 := C4.out.c 4 _ rfl
  have k5 := C4.out.c 5 _ rfl
  go_wp2_with fail
  refine (plan_is (HS.out.on T4.out.old) HNA.out HCPA.out (HA.out.on T4.out.old) HNB.out HCPB.out (HB.out.on T4.out.old) HP.out).mono ?_
  rintro e w5 ⟨rfl, hb⟩
  unfold Pn.val
  have hal := below_alloc w5 (.cells #[.int .i64 (p.src : Int), .int .i64 (p.dst : Int), .int .i64 p.used, .int .i64 (p.num : Int), .int .i64 p.made.ty, .int .i64 p.made.bits, .int .i64 p.made.base, .int .i64 p.made.size, .int .i64 p.made.used, .int .i64 p.made.frm, .int .i64 p.made.badge, .bool p.made.full, .int .u64 (p.made.word : Int), .int .u64 (p.made.d0 : Int), .int .u64 (p.made.d1 : Int), .int .u64 (p.made.d2 : Int), .int .u64 (p.made.d3 : Int)] 88)
  have T5 := Lib.hid ((T4.out.on hb).on hal)
  have R65 := Lib.hid ((R64.out.on hb).on hal)
  have R75 := Lib.hid ((R74.out.on hb).on hal)
  have N5 := Lib.hid (Bxs.more (T4.out.on hb).old [.int .i64 (p.src : Int), .int .i64 (p.dst : Int), .int .i64 p.used, .int .i64 (p.num : Int), .int .i64 p.made.ty, .int .i64 p.made.bits, .int .i64 p.made.base, .int .i64 p.made.size, .int .i64 p.made.used, .int .i64 p.made.frm, .int .i64 p.made.badge, .bool p.made.full, .int .u64 (p.made.word : Int), .int .u64 (p.made.d0 : Int), .int .u64 (p.made.d1 : Int), .int .u64 (p.made.d2 : Int), .int .u64 (p.made.d3 : Int)] 88)
  have HLT : Hid (g6 < w5.heap.size ∧ g7 < w5.heap.size) := Lib.hid ⟨Nat.lt_of_lt_of_le R64.out.bx.lt hb.size, Nat.lt_of_lt_of_le R74.out.bx.lt hb.size⟩
  clear hb hal t0 t1 t2 t3 t4 k0 k1 k2 k3 k4 k5 T4 C4 R64 R74
  go_upto_region 2 with fail
  obtain ⟨q, hq⟩ : ∃ q, q = w5.heap.size := ⟨_, rfl⟩
  have HNE : Hid (q ≠ g6 ∧ q ≠ g7 ∧ w.heap.size ≠ g6 ∧ w.heap.size ≠ g7 ∧ g6 ≠ g7) := Lib.hid ⟨by have := HLT.out; omega, by have := HLT.out; omega, hne.1, hne.2.1, hne.2.2⟩
  rw [← hq] at N5 ⊢
  clear hq hne HLT
  generalize w5.alloc _ = w6 at T5 R65 R75 N5 ⊢
  by_cases h0 : e0 = 0
  case neg =>
    have h0' : (e0 != 0) = true := by simpa using h0
    have HRES : Hid (r = (none, ⟨e0, 0, 0⟩)) := Lib.hid (by rw [HR.out, if_neg h0])
    have HT6 : Hid (w6.there g6 0 (#[.int .i64 a, .int .i64 b, .int .i64 c, .slice A n ca, .slice C m cc] : Array Value).size) := Lib.hid (R65.out.there (n := 5) rfl)
    have HO6 := Lib.hid (state_one a b c A n ca C m cc)
    have Q6 := Lib.hid (R65.out.setCells (vs := [.int .i64 a, .int .i64 b, .int .i64 c, .slice A n ca, .slice C m cc]) rfl)
    have Q7 := Lib.hid (R75.out.fnd (Fnd.setCells g6 [.int .i64 a, .int .i64 b, .int .i64 c, .slice A n ca, .slice C m cc] 0 w6) HNE.out.2.2.2.2.symm Q6.out.bx.old)
    have t0 := T5.out.c 0 _ rfl
    have t1 := T5.out.c 1 _ rfl
    have t2 := T5.out.c 2 _ rfl
    have t3 := T5.out.c 3 _ rfl
    have t4 := T5.out.c 4 _ rfl
    go_wp2_with (first
      | ((with_reducible change wpList _ _ _ _ _ _); refine wpList_store_mid (by rfl) 28 (.tmp 6) (.tmp 19) (by rfl) g6 0 #[.int .i64 a, .int .i64 b, .int .i64 c, .slice A n ca, .slice C m cc] (by rfl) (by rfl) HT6.out info_state HO6.out ?_; change wpList _ _ _ _ _ (w6.setCells g6 0 [.int .i64 a, .int .i64 b, .int .i64 c, .slice A n ca, .slice C m cc]); generalize w6.setCells g6 0 [.int .i64 a, .int .i64 b, .int .i64 c, .slice A n ca, .slice C m cc] = w7 at Q6 Q7 ⊢; have HT7 : Hid (w7.there g7 0 (#[.int .i64 e0, .int .u64 0, .int .i64 0] : Array Value).size) := Lib.hid (Q7.out.there (n := 3) rfl); have HO7 := Lib.hid (reply_one e0 0 0); have Q8 := Lib.hid (Q7.out.setCells (vs := [.int .i64 e0, .int .u64 0, .int .i64 0]) rfl); have Q9 := Lib.hid (Q6.out.fnd (Fnd.setCells g7 [.int .i64 e0, .int .u64 0, .int .i64 0] 0 w7) HNE.out.2.2.2.2 Q8.out.bx.old))
      | ((with_reducible change wpList _ _ _ _ _ _); refine wpList_store_mid (by rfl) 33 (.tmp 7) (.tmp 21) (by rfl) g7 0 #[.int .i64 e0, .int .u64 0, .int .i64 0] (by rfl) (by rfl) HT7.out info_reply HO7.out ?_; change wpList _ _ _ _ _ (w7.setCells g7 0 [.int .i64 e0, .int .u64 0, .int .i64 0]); generalize w7.setCells g7 0 [.int .i64 e0, .int .u64 0, .int .i64 0] = w8 at Q8 Q9 ⊢))
    refine bodyPost_ret (results_cc rfl _ _ _ (b := g6) (b' := g7) (by rfl) Q9.out.bx.range Tryz.underlying28 rfl info_state (by rfl) Q8.out.bx.range Tryz.underlying33 rfl info_reply) rfl ?_
    rw [HRES.out]
    exact ⟨A, ca, C, cc, rfl, Q8.out.bx.old, rfl, rfl, rfl, rfl⟩
  subst h0
  obtain ⟨kk, hplan⟩ := cplan_ok HP.out
  obtain ⟨G, M⟩ := hplan.mks
  have HK := Lib.hid M
  have HTH0 : Hid (0 ≤ (slAt s.sl p.src).c.th) := Lib.hid (G.fsl M.src (by rw [M.rm]; decide)).th0
  have HRM : Hid (thOf s p.src < s.th.length) := Lib.hid (M.room G).1
  have HRES : Hid (r = (some (cdone s p), ⟨0, 0, p.num⟩)) := Lib.hid (by rw [HR.out, if_pos rfl])
  clear hplan G M HR HP
  go_upto_region 4 with fail
  refine wp_region_held_drew (S := fun w' => Bxs w w' q [.int .i64 (p.src : Int), .int .i64 (p.dst : Int), .int .i64 p.used, .int .i64 (p.num : Int), .int .i64 p.made.ty, .int .i64 p.made.bits, .int .i64 p.made.base, .int .i64 p.made.size, .int .i64 p.made.used, .int .i64 p.made.frm, .int .i64 p.made.badge, .bool p.made.full, .int .u64 (p.made.word : Int), .int .u64 (p.made.d0 : Int), .int .u64 (p.made.d1 : Int), .int .u64 (p.made.d2 : Int), .int .u64 (p.made.d3 : Int)] ∧ Bxs w w' w.heap.size [.int .i64 a, .int .i64 b, .int .i64 c, .slice A n ca, .slice C m cc]) (by kernel_rfl) ⟨N5.out.drew, T5.out.drew⟩ (fun hHeld => ?_)
  have HP_v := Lib.hid N5.out.drew
  have HT_v := Lib.hid T5.out.drew
  have H6_v := Lib.hid (R65.out.on (below_self w6).drew)
  have H7_v := Lib.hid (R75.out.on (below_self w6).drew)
  clear N5 T5 R65 R75
  generalize w6.drew = v at HP_v HT_v H6_v H7_v hHeld ⊢
  refine wpAnyH_take (i := 0) (v := .agg #[.int .i64 (p.src : Int), .int .i64 (p.dst : Int), .int .i64 p.used, .int .i64 (p.num : Int), .int .i64 p.made.ty, .int .i64 p.made.bits, .int .i64 p.made.base, .int .i64 p.made.size, .int .i64 p.made.used, .int .i64 p.made.frm, .int .i64 p.made.badge, .bool p.made.full, .int .u64 (p.made.word : Int), .int .u64 (p.made.d0 : Int), .int .u64 (p.made.d1 : Int), .int .u64 (p.made.d2 : Int), .int .u64 (p.made.d3 : Int)]) rfl (by kernel_rfl) (by kernel_rfl) (by kernel_rfl) (fun _ _ _ h => h) (yieldsIf_load_mid (by rfl) 88 (.tmp 8) (by rfl) q 0 (by rfl) [.int .i64 (p.src : Int), .int .i64 (p.dst : Int), .int .i64 p.used, .int .i64 (p.num : Int), .int .i64 p.made.ty, .int .i64 p.made.bits, .int .i64 p.made.base, .int .i64 p.made.size, .int .i64 p.made.used, .int .i64 p.made.frm, .int .i64 p.made.badge, .bool p.made.full, .int .u64 (p.made.word : Int), .int .u64 (p.made.d0 : Int), .int .u64 (p.made.d1 : Int), .int .u64 (p.made.d2 : Int), .int .u64 (p.made.d3 : Int)] _ (fun w hS => hS.1.range) Tryz.underlying88 rfl info_plan) (by assumption) ?_
  try simp only [Act.put, List.setIfInBounds_toArray, List.set_cons_zero, List.set_cons_succ, List.getElem_toArray, List.getElem_cons_zero]
  refine wpAnyH_take (i := 1) (v := .agg #[.int .i64 a, .int .i64 b, .int .i64 c, .slice A n ca, .slice C m cc]) rfl (by kernel_rfl) (by kernel_rfl) (by kernel_rfl) (fun _ _ _ h => h) (yieldsIf_load_mid (by rfl) 28 (.tmp 3) (by rfl) w.heap.size 0 (by rfl) [.int .i64 a, .int .i64 b, .int .i64 c, .slice A n ca, .slice C m cc] _ (fun w hS => hS.2.range) Tryz.underlying28 rfl info_state) (by assumption) ?_
  try simp only [Act.put, List.setIfInBounds_toArray, List.set_cons_zero, List.set_cons_succ, List.getElem_toArray, List.getElem_cons_zero, List.getElem_cons_succ]
  refine wpAnyH_take (i := 3) (v := ?_) rfl (by kernel_rfl) (by kernel_rfl) (by kernel_rfl) (fun _ _ _ h => h) (Or.inl ⟨by rfl, ?_⟩) (by assumption) ?_
  rotate_left
  · intro w hSw; go_simp; try with_reducible rfl
  simp only [Act.put, List.setIfInBounds_toArray, List.set_cons_zero, List.set_cons_succ, List.getElem_toArray, List.getElem_cons_zero, List.getElem_cons_succ]
  refine wpAnyH_take (i := 4) (v := ?_) rfl (by kernel_rfl) (by kernel_rfl) (by kernel_rfl) (fun _ _ _ h => h) (Or.inl ⟨by rfl, ?_⟩) (by assumption) ?_
  rotate_left
  · intro w hSw; have h3 := hSw.1.c 3 _ rfl; go_simp; try with_reducible rfl
  simp only [Act.put, List.setIfInBounds_toArray, List.set_cons_zero, List.set_cons_succ, List.getElem_toArray, List.getElem_cons_zero, List.getElem_cons_succ]
  refine wpAnyH_take (i := 5) (v := ?_) rfl (by kernel_rfl) (by kernel_rfl) (by kernel_rfl) (fun _ _ _ h => h) (Or.inl ⟨by rfl, ?_⟩) (by assumption) ?_
  rotate_left
  · intro w hSw; go_simp; try with_reducible rfl
  simp only [Act.put, List.setIfInBounds_toArray, List.set_cons_zero, List.set_cons_succ, List.getElem_toArray, List.getElem_cons_zero, List.getElem_cons_succ]
  refine wpAnyH_ready (rs := [2]) (by kernel_rfl) (by simp) ?_
  refine AllReadyH.cons rfl (fun K hK => ?_) AllReadyH.nil
  go_simp
  refine (done_is (HS.out.on HP_v.out.old) HK.out.src HTH0.out HRM.out HK.out.dst HK.out.num).mono ?_
  rintro e v5 ⟨A2, ca2, C2, cc2, rfl, hca, hcc, hF, hb⟩
  have HCA := Lib.hid hca
  have HCC := Lib.hid hcc
  have HF_v5 := Lib.hid hF
  have HW_v5 : Hid (g6 < v.heap.size ∧ g7 < v.heap.size ∧ w.heap.size ≤ v.heap.size) := Lib.hid ⟨H6_v.out.bx.lt, H7_v.out.bx.lt, HP_v.out.old.size⟩
  have HP_v5 := Lib.hid (HP_v.out.on hb)
  have HT_v5 := Lib.hid (HT_v.out.on hb)
  have H6_v5 := Lib.hid (H6_v.out.on hb)
  have H7_v5 := Lib.hid (H7_v.out.on hb)
  clear hb hca hcc hF
  refine hK.out _ _ ⟨HP_v5.out, HT_v5.out⟩ (fun hHeld => ?_)
  clear hK K
  try simp only [Act.put, List.setIfInBounds_toArray, List.set_cons_zero, List.set_cons_succ, List.getElem_toArray, List.getElem_cons_zero, List.getElem_cons_succ]
  refine wpAnyH_ready (rs := [6]) (by kernel_rfl) (by simp) ?_
  refine AllReadyH.cons rfl (fun K hK => ?_) AllReadyH.nil
  have HTH_v6 : Hid (v5.there g6 0 (#[.int .i64 a, .int .i64 b, .int .i64 c, .slice A2 n ca2, .slice C2 m cc2] : Array Value).size) := Lib.hid (H6_v5.out.there (n := 5) rfl)
  have HON_v6 := Lib.hid (state_one a b c A2 n ca2 C2 m cc2)
  have H6_v6 := Lib.hid (H6_v5.out.setCells (vs := [.int .i64 a, .int .i64 b, .int .i64 c, .slice A2 n ca2, .slice C2 m cc2]) rfl)
  have f_v6 := Fnd.setCells g6 [.int .i64 a, .int .i64 b, .int .i64 c, .slice A2 n ca2, .slice C2 m cc2] 0 v5
  have HP_v6 := Lib.hid (HP_v5.out.fnd f_v6 HNE.out.1 H6_v6.out.bx.old)
  have HT_v6 := Lib.hid (HT_v5.out.fnd f_v6 HNE.out.2.2.1 H6_v6.out.bx.old)
  have H7_v6 := Lib.hid (H7_v5.out.fnd f_v6 HNE.out.2.2.2.2.symm H6_v6.out.bx.old)
  have HF_v6 := Lib.hid (HF_v5.out.fnd f_v6 HW_v5.out.1)
  clear f_v6
  refine step_store_mid (by rfl) 28 (.tmp 6) (.tmp 24) (by rfl) g6 0 #[.int .i64 a, .int .i64 b, .int .i64 c, .slice A2 n ca2, .slice C2 m cc2] (by rfl) (by rfl) HTH_v6.out info_state HON_v6.out ?_
  change K _ (v5.setCells g6 0 [.int .i64 a, .int .i64 b, .int .i64 c, .slice A2 n ca2, .slice C2 m cc2])
  generalize v5.setCells g6 0 [.int .i64 a, .int .i64 b, .int .i64 c, .slice A2 n ca2, .slice C2 m cc2] = v6 at HP_v6 HT_v6 H6_v6 H7_v6 HF_v6 ⊢
  refine hK.out _ _ ⟨HP_v6.out, HT_v6.out⟩ (fun hHeld => ?_)
  clear hK K
  try simp only [Act.put, List.getElem_toArray, List.getElem_cons_zero, List.getElem_cons_succ]
  refine wpAnyH_ready (rs := [7]) (by kernel_rfl) (by simp) ?_
  refine AllReadyH.cons rfl (fun K hK => ?_) AllReadyH.nil
  have HTH_v7 : Hid (v6.there g7 0 (#[.int .i64 0, .int .u64 0, .int .i64 (p.num : Int)] : Array Value).size) := Lib.hid (H7_v6.out.there (n := 3) rfl)
  have HON_v7 := Lib.hid (reply_one 0 0 (p.num : Int))
  have H7_v7 := Lib.hid (H7_v6.out.setCells (vs := [.int .i64 0, .int .u64 0, .int .i64 (p.num : Int)]) rfl)
  have f_v7 := Fnd.setCells g7 [.int .i64 0, .int .u64 0, .int .i64 (p.num : Int)] 0 v6
  have HP_v7 := Lib.hid (HP_v6.out.fnd f_v7 HNE.out.2.1 H7_v7.out.bx.old)
  have HT_v7 := Lib.hid (HT_v6.out.fnd f_v7 HNE.out.2.2.2.1 H7_v7.out.bx.old)
  have H6_v7 := Lib.hid (H6_v6.out.fnd f_v7 HNE.out.2.2.2.2 H7_v7.out.bx.old)
  have HF_v7 := Lib.hid (HF_v6.out.fnd f_v7 HW_v5.out.2.1)
  clear f_v7
  refine step_store_mid (by rfl) 33 (.tmp 7) (.tmp 27) (by rfl) g7 0 #[.int .i64 0, .int .u64 0, .int .i64 (p.num : Int)] (by rfl) (by rfl) HTH_v7.out info_reply HON_v7.out ?_
  change K _ (v6.setCells g7 0 [.int .i64 0, .int .u64 0, .int .i64 (p.num : Int)])
  generalize v6.setCells g7 0 [.int .i64 0, .int .u64 0, .int .i64 (p.num : Int)] = v7 at HP_v7 HT_v7 H6_v7 H7_v7 HF_v7 ⊢
  refine hK.out _ _ ⟨HP_v7.out, HT_v7.out⟩ (fun hHeld => ?_)
  clear hK K
  try simp only [Act.put, List.getElem_toArray, List.getElem_cons_zero, List.getElem_cons_succ]
  refine wpAnyH_done (by kernel_rfl) ?_ _
  go_wp2
  refine bodyPost_ret (results_cc rfl _ _ _ (b := g6) (b' := g7) (by rfl) H6_v7.out.bx.range Tryz.underlying28 rfl info_state (by rfl) H7_v7.out.bx.range Tryz.underlying33 rfl info_reply) rfl ?_
  rw [HRES.out]
  exact ⟨A2, ca2, C2, cc2, rfl, H6_v7.out.bx.old, HCA.out, HCC.out, HF_v7.out.base HW_v5.out.2.2⟩
end Go.Proofs.YtjnohbahjlidoaaGreat
namespace Go.Proofs.YtjnohbahjlidoaaGreat
open Go.RowKit

theorem Fsh.move {W W' w w' : World} {s : St} {A C : Option Addr} (h : Fsh W w s A C) (hW : W'.heap.size ≤ W.heap.size) (hsz : w.heap.size ≤ w'.heap.size) (e : ∀ k, W.heap.size ≤ k → k < w.heap.size → w'.heap[k]? = w.heap[k]?) : Fsh W' w' s A C := by
  refine ⟨⟨fun h0 => ?_, fun h0 => ?_⟩, fun h0 => ?_, fun h0 => ?_, h.ne⟩
  · obtain ⟨b, e1, h1, h2, -⟩ := h.sl h0
    obtain ⟨b', o', e2, h3, h4⟩ := h.lies.sl h0
    obtain ⟨rfl, rfl⟩ : b = b' ∧ 0 = o' := by rw [e1] at e2; simpa using e2
    exact ⟨b, 0, e1, by omega, fun j hj => (h4 j hj).same fun k => World.cell?_of_block (w := w) (a := ⟨b, k, none⟩) (e b h1 h2)⟩
  · obtain ⟨b, e1, h1, h2, -⟩ := h.th h0
    obtain ⟨b', o', e2, h3, h4⟩ := h.lies.th h0
    obtain ⟨rfl, rfl⟩ : b = b' ∧ 0 = o' := by rw [e1] at e2; simpa using e2
    exact ⟨b, 0, e1, by omega, fun j hj => (h4 j hj).same fun k => World.cell?_of_block (w := w) (a := ⟨b, k, none⟩) (e b h1 h2)⟩
  · obtain ⟨b, e1, h1, h2, h3⟩ := h.sl h0
    exact ⟨b, e1, by omega, by omega, fun k => (World.frozen?_of_block (w := w) (a := ⟨b, k, none⟩) (e b h1 h2)).trans (h3 k)⟩
  · obtain ⟨b, e1, h1, h2, h3⟩ := h.th h0
    exact ⟨b, e1, by omega, by omega, fun k => (World.frozen?_of_block (w := w) (a := ⟨b, k, none⟩) (e b h1 h2)).trans (h3 k)⟩
theorem way_is {A : Option Addr} {n cap : Nat} (w : World) : Calls Tryz.prog 53 #[.slice A n cap] w fun e w' => e = .returned (.agg #[.slice A n cap]) ∧ Below w.heap.size w w' := by
  go_enter Tryz.func53, Tryz.ntmps53
  go_wp2
  go_returns
  exact ⟨rfl, below_alloc _ _⟩
set_option maxHeartbeats 2000000 in
theorem first_is (w : World) : Calls Tryz.prog 52 #[] w fun e w' => ∃ A ca C cc, e = .returned (.agg #[.int .i64 2, .int .i64 32, .int .i64 16, .slice A 32 ca, .slice C 16 cc]) ∧ StH w' s64 2 32 16 A 32 ca C 16 cc ∧ Fsh w w' s64 A C ∧ Below w.heap.size w w' := by
  have k1 := Sbx.new w 0 0 0 none 0 0 none 0 0 28
  have hf : ∀ k, (w.alloc (.cells #[.int .i64 0, .int .i64 0, .int .i64 0, .slice none 0 0, .slice none 0 0] 28)).frozen? ⟨w.heap.size, k, none⟩ = false := fun k => frozen_of_row _ _ k _ _ (heap_alloc_new w _)
  go_enter Tryz.func52, Tryz.ntmps52
  go_wp2_with fail
  obtain ⟨g, hg⟩ : ∃ g, g = w.heap.size := ⟨_, rfl⟩
  rw [← hg] at k1 hf ⊢
  have HGG := Lib.hid hg
  clear hg
  generalize hw1 : w.alloc _ = w1 at k1 hf ⊢
  clear hw1
  refine (plain_any w1).mono ?_
  rintro e w2 ⟨rfl, hb2⟩
  have K2 := Lib.hid (k1.on hb2)
  have hf2 : ∀ k, w2.frozen? ⟨g, k, none⟩ = false := fun k => (hb2.frozen (p := ⟨g, k, none⟩) k1.lt).trans (hf k)
  clear hb2 hf k1
  go_wp2_with fail
  refine (pnew_is s64_new).mono ?_
  rintro e w3 ⟨A, ca, C, cc, rfl, hca, hcc, hF, hb3⟩
  simp only [s64_geo, s64_slots, s64_things] at hca hcc ⊢
  have K3 := Lib.hid (K2.out.on hb3)
  have hf3 : ∀ k, w3.frozen? ⟨g, k, none⟩ = false := fun k => (hb3.frozen (p := ⟨g, k, none⟩) K2.out.lt).trans (hf2 k)
  have HF := Lib.hid hF
  have HB3 := Lib.hid hb3
  have HCA := Lib.hid hca
  have HCC := Lib.hid hcc
  obtain ⟨b0, b1, b2, c3, c4, -, -, lt⟩ := K3.out
  have f0 := hf3 0
  have f1 := hf3 1
  have f2 := hf3 2
  have f3 := hf3 3
  have f4 := hf3 4
  clear hf3 hf2 hb3 hF hca hcc
  go_wp2_with fail
  have hp := put5_cells b0 b1 b2 c3 c4 (v0 := .int .i64 2) (v1 := .int .i64 32) (v2 := .int .i64 16) (v3 := .slice A 32 ca) (v4 := .slice C 16 cc)
  have hz := put5_size w3 g (.int .i64 2) (.int .i64 32) (.int .i64 16) (.slice A 32 ca) (.slice C 16 cc)
  have hh : ∀ k, k ≠ g → (put5 w3 g (.int .i64 2) (.int .i64 32) (.int .i64 16) (.slice A 32 ca) (.slice C 16 cc)).heap[k]? = w3.heap[k]? := fun k hk => put5_heap w3 g _ _ _ _ _ hk
  have hbl := put5_below K3.out.old (by rw [← HGG.out]; exact Nat.le_refl _) (.int .i64 2) (.int .i64 32) (.int .i64 16) (.slice A 32 ca) (.slice C 16 cc)
  change bodyPost _ _ _ _ _ ((put5 w3 g (.int .i64 2) (.int .i64 32) (.int .i64 16) (.slice A 32 ca) (.slice C 16 cc)).alloc _)
  generalize put5 w3 g (.int .i64 2) (.int .i64 32) (.int .i64 16) (.slice A 32 ca) (.slice C 16 cc) = w4 at hp hz hh hbl ⊢
  obtain ⟨e0, e1, e2, e3, e4⟩ := hp
  have hba := below_alloc w4 (.cells #[.int .i64 2, .int .i64 32, .int .i64 16, .slice A 32 ca, .slice C 16 cc] 28)
  have hg4 : g < w4.heap.size := by rw [hz]; exact lt
  replace e0 := (hba.cell (p := ⟨g, 0, none⟩) hg4).trans e0
  replace e1 := (hba.cell (p := ⟨g, 1, none⟩) hg4).trans e1
  replace e2 := (hba.cell (p := ⟨g, 2, none⟩) hg4).trans e2
  replace e3 := (hba.cell (p := ⟨g, 3, none⟩) hg4).trans e3
  replace e4 := (hba.cell (p := ⟨g, 4, none⟩) hg4).trans e4
  refine bodyPost_ret (by simp [results, Tryz.results52, go_sem, e0, e1, e2, e3, e4]; rfl) rfl ?_
  have hF : Fsh w (w4.alloc (.cells #[.int .i64 2, .int .i64 32, .int .i64 16, .slice A 32 ca, .slice C 16 cc] 28)) s64 A C := HF.out.move K2.out.old.size (by rw [← hz]; exact hba.size) fun k h1 h2 => by
    have := K2.out.lt
    exact (hba.block k (by omega)).trans (hh k (by omega))
  exact ⟨A, ca, C, cc, rfl, ⟨hF.lies, s64_geo, s64_slots.symm, s64_things.symm, by omega, by omega, HCA.out, HCC.out⟩, hF, below_on hbl hba⟩
theorem one_at (w : World) (z : Int) : IntsAt (w.alloc (.cells #[.int .i64 z] 3)) (w.alloc (.cells #[.int .i64 z] 3)).heap.size (some ⟨w.heap.size, 0, none⟩) [z] := fun _ =>
  ⟨w.heap.size, 0, rfl, by simp, fun j y hy => by
    match j, hy with
    | 0, hy =>
      obtain rfl : z = y := by simpa using hy
      simp⟩

/-! ### heavy -/
theorem heavy15_is {a b c : Int} {A : Option Addr} {n ca : Nat} {C : Option Addr} {m cc : Nat} {o x y : Int} {PA PB : Option Addr} {na cpa nb cpb z : Nat} {r : Bool} (hr : (decide (100 < n) || (decide (50 < m) || (decide (10 < na) || decide (10 < nb)))) = r) (w : World) :
    Calls Tryz.prog 20 #[.agg #[.int .i64 a, .int .i64 b, .int .i64 c, .slice A n ca, .slice C m cc], .agg #[.int .i64 o, .slice PA na cpa, .slice PB nb cpb, .int .i64 x, .int .i64 y, .int .u64 (z : Int)]] w fun e w' => e = .returned (.bool r) ∧ Below w.heap.size w w' := by
  have HB := Lib.hid (below_on (below_alloc w (.cells #[.int .i64 a, .int .i64 b, .int .i64 c, .slice A n ca, .slice C m cc] 28)) (below_alloc _ (.cells #[.int .i64 o, .slice PA na cpa, .slice PB nb cpb, .int .i64 x, .int .i64 y, .int .u64 (z : Int)] 41)))
  have HR := Lib.hid hr
  clear hr
  by_cases h1 : 100 < n
  · have h1' : (100 : Int) < (n : Int) := by omega
    have h1'' : decide ((100 : Int) < (n : Int)) = true := decide_eq_true h1'
    go_enter Tryz.func20, Tryz.ntmps20
    go_wp2
    go_ret
    exact ⟨by rw [← HR.out, decide_eq_true h1]; rfl, HB.out⟩
  have h1' : decide ((100 : Int) < (n : Int)) = false := decide_eq_false (by omega)
  by_cases h2 : 50 < m
  · have h2' : (50 : Int) < (m : Int) := by omega
    have h2'' : decide ((50 : Int) < (m : Int)) = true := decide_eq_true h2'
    have HRR := Lib.hid (show r = true by rw [← HR.out, decide_eq_false h1, decide_eq_true h2]; rfl)
    clear h1 h2
    go_enter Tryz.func20, Tryz.ntmps20
    go_wp2
    go_ret
    exact ⟨by rw [HRR.out]; rfl, HB.out⟩
  have h2' : decide ((50 : Int) < (m : Int)) = false := decide_eq_false (by omega)
  by_cases h3 : 10 < na
  · have h3' : (10 : Int) < (na : Int) := by omega
    have h3'' : decide ((10 : Int) < (na : Int)) = true := decide_eq_true h3'
    have HRR := Lib.hid (show r = true by rw [← HR.out, decide_eq_false h1, decide_eq_false h2, decide_eq_true h3]; rfl)
    clear h1 h2 h3
    go_enter Tryz.func20, Tryz.ntmps20
    go_wp2
    go_ret
    exact ⟨by rw [HRR.out]; rfl, HB.out⟩
  have h3' : decide ((10 : Int) < (na : Int)) = false := decide_eq_false (by omega)
  have h4 : decide ((10 : Int) < (nb : Int)) = decide (10 < nb) := by
    by_cases h : 10 < nb
    · rw [decide_eq_true h, decide_eq_true (by omega)]
    · rw [decide_eq_false h, decide_eq_false (by omega)]
  have h4' : decide ((10 : Int) < (nb : Int)) = r := by rw [← HR.out, decide_eq_false h1, decide_eq_false h2, decide_eq_false h3, h4]; rfl
  clear h1 h2 h3 h4
  go_enter Tryz.func20, Tryz.ntmps20
  go_wp2
  go_ret
  exact ⟨rfl, HB.out⟩

/-! ### awake -/
def aw15 : Pn := ⟨0, 3, 1, 4, Tng.of 4⟩
theorem aw15_plan : cplan s64 0 ⟨1, [0], [3], 4, 0, 0⟩ = (aw15, 0) := by kernel_rfl
theorem aw15_do : cdo s64 0 ⟨1, [0], [3], 4, 0, 0⟩ = (some (cdone s64 aw15), ⟨0, 0, 4⟩) := by rw [cdo, aw15_plan]; rfl
theorem aw15_slot : slAt (cdone s64 aw15).sl 3 = ⟨⟨4, 4, 7, 0⟩, 0⟩ := by kernel_rfl
theorem aw15_thing : thAt (cdone s64 aw15).th 4 = Tng.of 4 := by kernel_rfl
theorem eq_reply (a b x y : Int) (u v : Nat) (w : World) : (Op.equalIn 10000 33 (.agg #[.int .i64 a, .int .u64 (u : Int), .int .i64 x]) (.agg #[.int .i64 b, .int .u64 (v : Int), .int .i64 y])).run Tryz.prog w = .ok (a == b && (u == v && x == y)) w := by
  by_cases h1 : a = b <;> by_cases h2 : u = v <;> by_cases h3 : x = y
  all_goals simp [go_sem, h1, h2, h3, Int.natCast_inj]
set_option maxRecDepth 100000 in
set_option maxHeartbeats 8000000 in
theorem awake15_is (w : World) : Calls Tryz.prog 19 #[] w fun e w' => e = .returned (.bool true) ∧ Below w.heap.size w w' := by
  go_enter Tryz.func19, Tryz.ntmps19
  go_wp2_with fail
  refine (first_is w).mono ?_
  rintro e w1 ⟨A, ca, C, cc, rfl, hS, -, hb1⟩
  have HS := Lib.hid hS
  have HB1 := Lib.hid hb1
  clear hS hb1
  have hL := one_at w1 0
  have hb := below_alloc w1 (.cells #[.int .i64 0] 3)
  go_wp2_with fail
  generalize w1.alloc _ = w2 at hL hb ⊢
  have HL := Lib.hid hL
  have HB2 := Lib.hid hb
  clear hL hb
  refine (way_is w2).mono ?_
  rintro e w3 ⟨rfl, hb⟩
  have HL3 := Lib.hid (HL.out.on hb)
  have HB3 := Lib.hid (below_on HB2.out hb)
  clear hb HL HB2
  have hM := one_at w3 3
  have hb := below_alloc w3 (.cells #[.int .i64 3] 3)
  go_wp2_with fail
  generalize w3.alloc _ = w4 at hM hb ⊢
  have HM := Lib.hid hM
  have HL4 := Lib.hid (HL3.out.on hb)
  have HB4 := Lib.hid (below_on HB3.out hb)
  clear hM hb HL3 HB3
  refine (way_is w4).mono ?_
  rintro e w5 ⟨rfl, hb⟩
  have HM5 := Lib.hid (HM.out.on hb)
  have HL5 := Lib.hid (HL4.out.on hb)
  have HB5 := Lib.hid (below_on HB4.out hb)
  clear hb HM HL4 HB4
  go_wp2_with fail
  refine (do_is (z := 0) (HS.out.on HB5.out) rfl (by simp) HL5.out rfl (by simp) HM5.out aw15_do).mono ?_
  rintro e w6 ⟨A2, ca2, C2, cc2, rfl, hb, hca, hcc, hF⟩
  obtain ⟨P, Q, rfl, rfl, hO⟩ := hF.ost (by rw [done_sl, s64_slots]; decide) (by rw [done_th, s64_things]; decide) hb
  have HB6 := Lib.hid (below_on (below_on HB1.out HB5.out) hb)
  simp only [Rep.val]
  have t4 := hO.th 4 (by rw [done_th, s64_things]; decide) 0 _ rfl
  rw [aw15_thing] at t4
  have sl3 := hO.sl 3 (by rw [done_sl, s64_slots]; decide)
  rw [aw15_slot] at sl3
  have lP := hO.lP
  have lQ := hO.lQ
  clear hF hb hca hcc HS HB1 HB5 HL5 HM5
  have N := Bxs.new w6 [.int .i64 2, .int .i64 32, .int .i64 16, .slice (some ⟨P, 0, none⟩) 32 ca2, .slice (some ⟨Q, 0, none⟩) 16 cc2] 28
  have M := Bxs.more N.old [.int .i64 0, .int .u64 0, .int .i64 4] 33
  rw [show (w6.alloc (.cells [.int .i64 2, .int .i64 32, .int .i64 16, .slice (some ⟨P, 0, none⟩) 32 ca2, .slice (some ⟨Q, 0, none⟩) 16 cc2].toArray 28)).heap.size = w6.heap.size + 1 by simp] at M
  have hal := below_alloc (w6.alloc (.cells #[.int .i64 2, .int .i64 32, .int .i64 16, .slice (some ⟨P, 0, none⟩) 32 ca2, .slice (some ⟨Q, 0, none⟩) 16 cc2] 28)) (.cells #[.int .i64 0, .int .u64 0, .int .i64 4] 33)
  have N2 := N.on hal
  have t4 := (N2.old.cell (p := ⟨Q, 4 * 13 + 0, none⟩) lQ).trans t4
  have s30 := (N2.old.cell (p := ⟨P, 3 * 5 + 0, none⟩) lP).trans (sl3 0 _ rfl)
  have s31 := (N2.old.cell (p := ⟨P, 3 * 5 + 1, none⟩) lP).trans (sl3 1 _ rfl)
  have s32 := (N2.old.cell (p := ⟨P, 3 * 5 + 2, none⟩) lP).trans (sl3 2 _ rfl)
  have s33 := (N2.old.cell (p := ⟨P, 3 * 5 + 3, none⟩) lP).trans (sl3 3 _ rfl)
  have s34 := (N2.old.cell (p := ⟨P, 3 * 5 + 4, none⟩) lP).trans (sl3 4 _ rfl)
  have HB8 := Lib.hid (below_on HB6.out N2.old)
  clear N hal sl3 lP lQ hO HB6
  go_upto_region 2 with fail
  obtain ⟨q, hq⟩ : ∃ q, q = w6.heap.size + 1 := ⟨_, rfl⟩
  rw [← hq] at M ⊢
  clear hq
  generalize (w6.alloc _).alloc _ = w8 at N2 M t4 s30 s31 s32 s33 s34 HB8 ⊢
  have n3 := N2.c 3 _ rfl
  have n4 := N2.c 4 _ rfl
  have m0 := M.c 0 _ rfl
  have m1 := M.c 1 _ rfl
  have m2 := M.c 2 _ rfl
  clear N2 M
  simp only [Nat.reduceMul, Nat.reduceAdd, Tng.of] at t4 s30 s31 s32 s33 s34
  have heq1 : ∀ w, (Op.equalIn 10000 33 (.agg #[.int .i64 0, .int .u64 0, .int .i64 4]) (.agg #[.int .i64 0, .int .u64 0, .int .i64 4])).run Tryz.prog w = .ok true w := fun w => eq_reply 0 0 4 4 0 0 w
  have heq2 : ∀ w, (Op.equalIn 10000 52 (.agg #[.int .i64 4, .int .i64 4, .int .i64 7, .int .i64 0, .int .i64 0]) (.agg #[.int .i64 4, .int .i64 4, .int .i64 7, .int .i64 0, .int .i64 0])).run Tryz.prog w = .ok true w := fun w => by
    have h := peqslot ⟨⟨4, 4, 7, 0⟩, 0⟩ ⟨⟨4, 4, 7, 0⟩, 0⟩ w
    rw [Sl.eq_iff.2 rfl] at h
    exact h
  go_wp2
  go_ret
  exact ⟨rfl, HB8.out⟩
end Go.Proofs.YtjnohbahjlidoaaGreat
