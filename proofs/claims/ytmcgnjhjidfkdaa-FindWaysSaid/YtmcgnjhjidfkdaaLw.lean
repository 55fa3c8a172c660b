/-
  The law FindWays walked. Condition: the state lies in memory.
-/
import Derived.Test.YtmcgnjhjidfkdaaLi
import Derived.Test.YtmcgnjhjidfkdaaLe
namespace Go.Proofs.Ytmcgnjhjidfkdaa
open Go.RowKit

theorem row_form {w : World} {base : Nat} {T : TypeId} {v : Value} {N : Nat} {vs : List Value} (h : w.ownsRow base T 1 v N vs) : ∃ A cap, v = .slice A N cap ∧ N ≤ cap ∧ ∀ (j : Nat) (u : Value), vs[j]? = some u → ∃ g, A = some ⟨g, 0, none⟩ ∧ g < w.heap.size ∧ w.cell? ⟨g, j, none⟩ = some u := by
  rcases h.2 with ⟨rfl, h0⟩ | ⟨g, cap, cur, rfl, hb, hg, h1, h2, h3, h4⟩
  · refine ⟨none, 0, by rw [h0], by omega, fun j u hu => ?_⟩
    have := (List.getElem?_eq_some_iff.1 hu).1
    have := h.1
    omega
  · refine ⟨some ⟨g, 0, none⟩, cap, rfl, h1, fun j u hu => ⟨g, rfl, lt_of_block hg, ?_⟩⟩
    have hj := (List.getElem?_eq_some_iff.1 hu).1
    have := h.1
    rw [h.cellAt j (by omega), hu]
def Fw1 (V : World) (N : Nat) (f : Nat) (p : Value) (wr : World) : Prop := ∃ i : Nat, f + i = N ∧ p = .int .i64 i ∧ Below V.heap.size V wr
def Fw2 (V : World) (r : List Int) (k : Int) (f : Nat) (p q : Value) (wr : World) : Prop := ∃ i : Nat, f + i = r.length ∧ p = .bool ((r.take i).any (fun x => x == k)) ∧ q = .int .i64 i ∧ Below V.heap.size V wr
set_option maxRecDepth 100000 in
set_option maxHeartbeats 16000000 in
theorem find_ways {s : St} {a b c t k : Int} {A C : Option Addr} {n ca m cc : Nat} {w : World} (hS : StAt w s A C) (hg : s.g = ⟨a, b, c⟩) (hn : n = s.sl.length) (hm : m = s.th.length) (hca : n ≤ ca) (hcc : m ≤ cc) :
    Calls Try.prog 3 #[.agg #[.int .i64 a, .int .i64 b, .int .i64 c, .slice A n ca, .slice C m cc], .int .i64 t, .int .i64 k] w fun e w' => e = .returned (.bool true) ∧ Below w.heap.size w w' := by
  have hK := Sbx.new w a b c A n ca C m cc 27
  have HS := Lib.hid (hS.on hK.old)
  have HG := Lib.hid hg
  have HN := Lib.hid hn
  have HM := Lib.hid hm
  have HCA := Lib.hid hca
  have HCC := Lib.hid hcc
  clear hS hg hn hm hca hcc
  go_enter Try.func3, Try.ntmps3
  go_wp2_with fail
  obtain ⟨g, hg⟩ : ∃ g, g = w.heap.size := ⟨_, rfl⟩
  rw [← hg] at hK ⊢
  clear hg
  generalize w.alloc _ = w1 at hK HS ⊢
  refine (fawake_is w1).mono ?_
  rintro e w2 ⟨rfl, hb⟩
  have K2 := Lib.hid (hK.on hb)
  have HS2 := Lib.hid (HS.out.on hb)
  clear hK HS hb
  obtain ⟨b0, b1, b2, c3, c4, -, -, lt⟩ := K2.out
  by_cases h1 : (100 : Int) < (n : Int)
  · go_wp2
    go_ret
    exact ⟨rfl, K2.out.old⟩
  by_cases h2 : (50 : Int) < (m : Int)
  · go_wp2
    go_ret
    exact ⟨rfl, K2.out.old⟩
  have HH : Hid (StH w2 s a b c A n ca C m cc) := Lib.hid ⟨HS2.out, HG.out, HN.out, HM.out, by omega, by omega, HCA.out, HCC.out⟩
  obtain ⟨gd, hgd⟩ : ∃ z, sgood s = z := ⟨_, rfl⟩
  have HGD := Lib.hid hgd
  clear hgd
  go_wp2_with fail
  refine (sgood_is HH.out HGD.out).mono ?_
  rintro e w3 ⟨rfl, hb⟩
  have K3 := Lib.hid (K2.out.on hb)
  have HH3 := Lib.hid (HH.out.on hb)
  clear K2 HS2 HH hb b0 b1 b2 c3 c4 lt
  rcases gd with _ | _
  · go_wp2
    go_ret
    exact ⟨rfl, K3.out.old⟩
  obtain ⟨b0, b1, b2, c3, c4, -, -, lt⟩ := K3.out
  go_wp2_with fail
  refine (fways_is HH3.out).mono ?_
  rintro e w4 ⟨v, vs, rfl, hown, hW, hb⟩
  obtain ⟨PA, pcap, rfl, hpc, hrow⟩ := row_form hown
  have K4 := Lib.hid (K3.out.on hb)
  have HH4 := Lib.hid (HH3.out.on hb)
  have HW := Lib.hid hW
  have HROW := Lib.hid hrow
  have HPC := Lib.hid hpc
  obtain ⟨N, hN⟩ : ∃ N, N = (fways s t k).length := ⟨_, rfl⟩
  rw [← hN]
  have HNN := Lib.hid hN
  have hN64 : N ≤ 64000 := by rw [hN]; exact fways_len
  have HN64 := Lib.hid hN64
  clear hown hrow hW hb hpc hN hN64 b0 b1 b2 c3 c4 lt K3 HH3 h1 h2
  go_wp2_with fail
  go_loopg [8] N (fun f p wr => Fw1 w4 N f p wr)
  case atStart => exact ⟨0, by omega, rfl, below_self _⟩
  case round =>
    obtain ⟨i, hk, rfl, hb⟩ := hrel
    have HK := Lib.hid hk
    have HB := Lib.hid hb
    clear hk hb
    by_cases hlt : i < N
    case pos =>
      have HLT := Lib.hid hlt
      have hlt2 : (i : Int) < (N : Int) := by omega
      obtain ⟨q, hq⟩ : ∃ q, (fways s t k)[i]? = some q := ⟨_, List.getElem?_eq_getElem (by rw [← HNN.out]; exact hlt)⟩
      obtain ⟨B, pc, hv, hqc, hI⟩ := HW.out.2 i q hq
      obtain ⟨gp, rfl, hgl, hcell⟩ := HROW.out i _ hv
      obtain ⟨hgood, hsl⟩ := fways_yes (List.mem_of_getElem? hq)
      obtain ⟨qn, hqn⟩ : ∃ qn, qn = q.length := ⟨_, rfl⟩
      rw [← hqn] at hcell hqc
      have HQN := Lib.hid hqn
      have HQC := Lib.hid hqc
      have HI := Lib.hid hI
      have HGOOD := Lib.hid hgood
      have HSL := Lib.hid hsl
      have p1 : wr.drew.cell? ⟨gp, i, none⟩ = some (.slice B qn pc) := (HB.out.cell (p := ⟨gp, i, none⟩) hgl).trans hcell
      have KD : Hid (Sbx w wr.drew g a b c A n ca C m cc) := Lib.hid (K4.out.on HB.out.drew)
      have hgd : gp < wr.drew.heap.size := Nat.lt_of_lt_of_le hgl HB.out.size
      have HC := Lib.hid fun w1 (h : Below wr.drew.heap.size wr.drew w1) => k6_use KD.out hgd p1 h (slot_is (t := t) (HH4.out.on (below_on HB.out.drew h)) HQN.out HQC.out (HI.out.on (below_on HB.out.drew h)) HSL.out)
      have HPG := Lib.hid hgd
      have HPL := Lib.hid p1
      clear hlt hq hv hqc hI hgl hcell hgood hsl hqn hgd
      obtain ⟨b0, b1, b2, c3, c4, -, -, lt⟩ := KD.out
      have hb0 : Below wr.drew.heap.size wr.drew wr.drew := Below.refl _ _
      go_wp2_with fail
      go_region_held3 (fun w' => w'.cell? ⟨g, 0, none⟩ = some (.int .i64 a) ∧ w'.cell? ⟨g, 1, none⟩ = some (.int .i64 b) ∧ w'.cell? ⟨g, 2, none⟩ = some (.int .i64 c) ∧ w'.cell? ⟨g, 3, none⟩ = some (.slice A n ca) ∧ w'.cell? ⟨g, 4, none⟩ = some (.slice C m cc) ∧ w'.cell? ⟨gp, i, none⟩ = some (.slice B qn pc) ∧ Below wr.drew.heap.size wr.drew w')
        (first | exact ⟨by with_reducible assumption, by with_reducible assumption, by with_reducible assumption, by with_reducible assumption, by with_reducible assumption, by with_reducible assumption, by with_reducible assumption⟩ | fail)
        (first
          | (go_at_call 9; ((with_reducible refine (HC.out _ (by with_reducible assumption)).mono ?_); rintro e w' ⟨rfl, y0, y1, y2, y3, y4, y5, y6⟩))
          | fail)
      have HY6 := Lib.hid y6
      have HY5 := Lib.hid y5
      clear b0 b1 b2 c3 c4 lt p1 hb0 y0 y1 y2 y3 y4 y6 HC
      go_wp2_with fail
      refine (wgood_is HQN.out (HI.out.on (below_on HB.out.drew HY6.out)) HGOOD.out).mono ?_
      rintro e w6 ⟨rfl, hb6⟩
      have HB6 := Lib.hid (below_on (below_on HB.out.drew HY6.out) hb6)
      clear hb6 y5
      go_wp2
      go_roundg (N - (i + 1))
      case measure => have := HK.out; have := HLT.out; omega
      case rel => exact ⟨i + 1, by have := HLT.out; omega, by refine congrArg _ ?_; have := HLT.out; have := HN64.out; first | rfl | (unfold wrap64; omega), HB6.out⟩
    have hlt2 : ¬ (i : Int) < (N : Int) := by omega
    have K5 := Lib.hid (K4.out.on HB.out)
    have HH5 := Lib.hid (HH4.out.on HB.out)
    obtain ⟨b0, b1, b2, c3, c4, -, -, lt⟩ := K5.out
    clear hlt HROW HW HK K4 HH4
    go_wp2_with fail
    refine (freach_is (t := t) HH5.out).mono ?_
    rintro e w6 ⟨RA, rc, rfl, hrc, hri, hb6⟩
    have K6 := Lib.hid (K5.out.on hb6)
    have HH6 := Lib.hid (HH5.out.on hb6)
    have HRI := Lib.hid hri
    have HRC := Lib.hid hrc
    obtain ⟨R, hR⟩ : ∃ R, R = (freach s t).length := ⟨_, rfl⟩
    rw [← hR]
    have HRR := Lib.hid hR
    have HR64 : Hid (R ≤ 64000) := Lib.hid (by rw [hR]; exact Nat.le_trans freach_len (by rw [fsorted_len]; exact frun_len))
    clear hri hrc hb6 hR b0 b1 b2 c3 c4 lt K5 HH5
    go_wp2_with fail
    go_loopg [12, 13] R (fun f p q wr => Fw2 w6 (freach s t) k f p q wr)
    case atStart => exact ⟨0, by rw [← HRR.out]; omega, rfl, rfl, below_self _⟩
    case round =>
      obtain ⟨i, hk, rfl, rfl, hb⟩ := hrel
      have HK := Lib.hid hk
      have HB := Lib.hid hb
      clear hk hb
      by_cases hlt : i < R
      case pos =>
        have HLT := Lib.hid hlt
        have hlt2 : (i : Int) < (R : Int) := by omega
        obtain ⟨x, hx⟩ : ∃ x, (freach s t)[i]? = some x := ⟨_, List.getElem?_eq_getElem (by rw [← HRR.out]; exact hlt)⟩
        obtain ⟨rb, ro, rfl, hrl, hrcell⟩ := HRI.out (by rw [← HRR.out]; omega)
        have p1 := (HB.out.cell (p := ⟨rb, ro + i, none⟩) hrl).trans (hrcell i x hx)
        have hown := freach_owned (List.mem_of_getElem? hx)
        obtain ⟨o, ho⟩ : ∃ o, optI (sowner s x) = o := ⟨_, rfl⟩
        rw [ho] at hown
        have KD : Hid (Sbx w wr.drew g a b c A n ca C m cc) := Lib.hid (K6.out.on HB.out.drew)
        have hgd : rb < wr.drew.heap.size := Nat.lt_of_lt_of_le hrl HB.out.size
        have hq2 : wr.drew.cell? ⟨rb, ro + i, none⟩ = some (.int .i64 x) := p1
        have HC := Lib.hid fun w1 (h : Below wr.drew.heap.size wr.drew w1) => k6_use KD.out hgd hq2 h (pown_is (HH6.out.on (below_on HB.out.drew h)) ho)
        have hneg : ¬ o < 0 := by omega
        obtain ⟨y, hy⟩ : ∃ y, (x == k) = y := ⟨_, rfl⟩
        have HYY := Lib.hid hy
        obtain ⟨th, hth⟩ : ∃ th, ((freach s t).take i).any (fun x => x == k) = th := ⟨_, rfl⟩
        have HANY : Hid (((freach s t).take (i + 1)).any (fun x => x == k) = (th || y)) := Lib.hid (by rw [List.take_add_one, hx, List.any_append, hth]; simp [hy])
        rw [hth]
        clear hlt hx hrl hrcell hown ho hgd hq2 hth
        cases th with
        | true =>
        have p2 : wr.drew.cell? ⟨rb, ro + i, none⟩ = some (.int .i64 x) := p1
        obtain ⟨b0, b1, b2, c3, c4, -, -, lt⟩ := KD.out
        have hb0 : Below wr.drew.heap.size wr.drew wr.drew := Below.refl _ _
        go_wp2_with fail
        go_region_held3 (fun w' => w'.cell? ⟨g, 0, none⟩ = some (.int .i64 a) ∧ w'.cell? ⟨g, 1, none⟩ = some (.int .i64 b) ∧ w'.cell? ⟨g, 2, none⟩ = some (.int .i64 c) ∧ w'.cell? ⟨g, 3, none⟩ = some (.slice A n ca) ∧ w'.cell? ⟨g, 4, none⟩ = some (.slice C m cc) ∧ w'.cell? ⟨rb, ro + i, none⟩ = some (.int .i64 x) ∧ Below wr.drew.heap.size wr.drew w')
          (first | exact ⟨by with_reducible assumption, by with_reducible assumption, by with_reducible assumption, by with_reducible assumption, by with_reducible assumption, by with_reducible assumption, by with_reducible assumption⟩ | fail)
          (first
            | (go_at_call 12; ((with_reducible refine (HC.out _ (by with_reducible assumption)).mono ?_); rintro e w' ⟨rfl, y0, y1, y2, y3, y4, y5, y6⟩))
            | fail)
        have HY6 := Lib.hid (below_on HB.out.drew y6)
        clear b0 b1 b2 c3 c4 lt p1 p2 hb0 y0 y1 y2 y3 y4 y5 y6 HC
        go_wp2
        go_roundg (R - (i + 1))
        case measure => have := HK.out; have := HLT.out; have := HRR.out; omega
        case rel => exact ⟨i + 1, by have := HK.out; have := HLT.out; have := HRR.out; omega, by rw [HANY.out]; rfl, by refine congrArg _ ?_; have := HLT.out; have := HR64.out; first | rfl | (unfold wrap64; omega), HY6.out⟩
        | false =>
        have p2 : wr.drew.cell? ⟨rb, ro + i, none⟩ = some (.int .i64 x) := p1
        obtain ⟨b0, b1, b2, c3, c4, -, -, lt⟩ := KD.out
        have hb0 : Below wr.drew.heap.size wr.drew wr.drew := Below.refl _ _
        go_wp2_with fail
        go_region_held3 (fun w' => w'.cell? ⟨g, 0, none⟩ = some (.int .i64 a) ∧ w'.cell? ⟨g, 1, none⟩ = some (.int .i64 b) ∧ w'.cell? ⟨g, 2, none⟩ = some (.int .i64 c) ∧ w'.cell? ⟨g, 3, none⟩ = some (.slice A n ca) ∧ w'.cell? ⟨g, 4, none⟩ = some (.slice C m cc) ∧ w'.cell? ⟨rb, ro + i, none⟩ = some (.int .i64 x) ∧ Below wr.drew.heap.size wr.drew w')
          (first | exact ⟨by with_reducible assumption, by with_reducible assumption, by with_reducible assumption, by with_reducible assumption, by with_reducible assumption, by with_reducible assumption, by with_reducible assumption⟩ | fail)
          (first
            | (go_at_call 12; ((with_reducible refine (HC.out _ (by with_reducible assumption)).mono ?_); rintro e w' ⟨rfl, y0, y1, y2, y3, y4, y5, y6⟩))
            | fail)
        have HY6 := Lib.hid (below_on HB.out.drew y6)
        clear b0 b1 b2 c3 c4 lt p1 p2 hb0 y0 y1 y2 y3 y4 y5 y6 HC
        go_wp2
        go_roundg (R - (i + 1))
        case measure => have := HK.out; have := HLT.out; have := HRR.out; omega
        case rel => exact ⟨i + 1, by have := HK.out; have := HLT.out; have := HRR.out; omega, by rw [HANY.out]; rfl, by refine congrArg _ ?_; have := HLT.out; have := HR64.out; first | rfl | (unfold wrap64; omega), HY6.out⟩
      have hlt2 : ¬ (i : Int) < (R : Int) := by omega
      have hi : i = (freach s t).length := by have := HK.out; have := HRR.out; omega
      have hfin : (((freach s t).take i).any (fun x => x == k) == decide (0 < N)) = true := by
        rw [hi, List.take_length, beq_iff_eq, Bool.eq_iff_iff, List.any_eq_true, decide_eq_true_iff]
        have h := freach_ways (s := s) (t := t) (k := k)
        rw [← HNN.out] at h
        constructor
        · rintro ⟨x, hx, hxk⟩
          obtain rfl : x = k := by simpa using hxk
          have := h.1 hx
          omega
        · intro h0
          exact ⟨k, h.2 (by omega), by simp⟩
      have HFIN := Lib.hid hfin
      generalize ((freach s t).take i).any (fun x => x == k) = th at HFIN ⊢
      clear hlt hi hfin
      go_wp2
      go_ret
      exact ⟨congrArg (fun z => Ending.returned (Value.bool z)) HFIN.out, below_on K6.out.old HB.out⟩
end Go.Proofs.Ytmcgnjhjidfkdaa
