/-
  How an argument that is a call reads, its ways' room told, too. No condition.
  What carve's answer leaves as it was, as plain data; the walk of the law CarveRoom. Condition: the state and the call's ways lie in memory.
-/
import Derived.Test.YthooeahpfegjbaaB3
import Derived.Test.YthooeahpfegjbaaJr
import Derived.BigQuiet
namespace Go.Proofs.Ythooeahpfegjbaa
open Go.ChangeShapes Go.WideShapes Go.ChangeAt Go.RowKit Go.Deep

theorem cellsL : Try.prog.cellsOf 33 = 1 := by kernel_rfl
theorem cellsP : Try.prog.cellsOf 35 = 1 := by kernel_rfl
theorem cellsCl : Try.prog.cellsOf 51 = 6 := by kernel_rfl
section
variable {H : Type} {enc : TypeId × Value → H} {W : World} {base : Nat} {sp : Nat → Bool} {hd : Bool} {n : Nat} {x : DataW H × List MemPlace}
set_option maxRecDepth 100000 in
theorem ints_of {v : Value} (h : DataW.trod enc Try.prog W 0 sp hd n 33 [v] = some x) : ∃ (A : Option Addr) (cap : Nat) (l : List Int), v = .slice A l.length cap ∧ l.length ≤ cap ∧ IntsAt W W.heap.size A l := by
  rcases open_slice Try.underlying33 h with ⟨hcs, _⟩ | ⟨a, len, cap, m, k, D, Pl, hcs, _, hl, hm, hmm, _, hx⟩
  · injection hcs with hcs
    exact ⟨none, 0, [], hcs, Nat.le_refl _, fun h => absurd h (by simp)⟩
  · injection hcs with hcs
    have hlm : len ≤ m := by rw [hmm]; split <;> omega
    obtain ⟨f, hfa⟩ := choose_lt (α := Int) (p := fun i (z : Int) => W.cell? ((a.add (i * 1)).add 0) = some (.int .i64 z)) (fun i (hi : i < len) => by
      obtain ⟨cs', h1, h2⟩ := hx i (by omega)
      rw [cellsI] at h1
      obtain ⟨_, _, hat⟩ := World.cells?_some h1
      obtain ⟨z, rfl, _⟩ := DataW.trod_int Try.underlying3 h2
      exact ⟨z, hat 0 (by omega)⟩)
    have hlen : ((List.range len).map f).length = len := by simp
    refine ⟨some a, cap, (List.range len).map f, by rw [hlen]; exact hcs, by rw [hlen]; exact hl, fun h0 => ?_⟩
    rw [hlen] at h0
    obtain ⟨b, o, spot⟩ := a
    have hspot : spot = none := by simpa [Addr.add] using World.cell?_spot (hfa 0 h0)
    subst hspot
    have hblt : b < W.heap.size := by
      have := World.block_lt_of_cell? W _ (hfa 0 h0)
      simpa [Addr.add] using this
    refine ⟨b, o, rfl, hblt, fun j c hc => ?_⟩
    have hj : j < len := by
      have := (List.getElem?_eq_some_iff.1 hc).1
      rwa [hlen] at this
    have hcf : c = f j := by
      rw [List.getElem?_map, List.getElem?_range hj] at hc
      simpa using hc.symm
    subst hcf
    have h3 := hfa j hj
    simp only [Addr.add_mid, Nat.add_zero, Nat.mul_one] at h3
    exact h3
set_option maxRecDepth 100000 in
theorem path_of {v : Value} (h : DataW.trod enc Try.prog W 0 sp hd n 35 [v] = some x) : ∃ (A : Option Addr) (cap : Nat) (l : List Int), v = .slice A l.length cap ∧ l.length ≤ cap ∧ IntsAt W W.heap.size A l := by
  obtain ⟨xs, m, _, _, hlen, hxs, hf⟩ := DataW.trod_struct Try.underlying35 h
  match xs, hxs with
  | [y0], _ =>
    have f0 : DataW.trod enc Try.prog W 0 sp hd m 33 (List.take (Try.prog.cellsOf 33) [v]) = some y0 := hf 0 _ rfl
    rw [cellsL] at f0
    exact ints_of (show DataW.trod enc Try.prog W 0 sp hd m 33 [v] = some y0 from f0)
end
set_option maxRecDepth 100000 in
theorem open_ccall {H : Type} {enc : TypeId × Value → H} {W : World} {base : Nat} {v : Value} {d : DataW H} {p : List MemPlace}
    (hv : Value.okWide Try.prog W .any base 51 v) (h : DataW.Trod enc Try.prog W 0 (fun _ => true) true 51 v d p) :
    ∃ (o : Int) (A : Option Addr) (ca : Nat) (a : List Int) (B : Option Addr) (cb : Nat) (b : List Int) (x y : Int) (z : Nat), v = .agg #[.int .i64 o, .slice A a.length ca, .slice B b.length cb, .int .i64 x, .int .i64 y, .int .u64 (z : Int)] ∧ a.length ≤ ca ∧ IntsAt W W.heap.size A a ∧ b.length ≤ cb ∧ IntsAt W W.heap.size B b := by
  obtain ⟨cs, rfl, hsz⟩ := okWide_struct Try.underlying51 hv
  rw [cellsCl] at hsz
  obtain ⟨fuel, hf⟩ := h
  obtain ⟨xs, n, _, _, hlen, hxs, hg⟩ := DataW.trod_struct Try.underlying51 hf
  obtain ⟨l⟩ := cs
  replace hsz : l.length = 6 := by simpa using hsz
  match l, hsz with
  | [c0, c1, c2, c3, c4, c5], _ =>
    match xs, hxs with
    | [y0, y1, y2, y3, y4, y5], _ =>
      have f0 : DataW.trod enc Try.prog W 0 (fun _ => true) true n 3 (List.take (Try.prog.cellsOf 3) [c0, c1, c2, c3, c4, c5]) = some y0 := hg 0 _ rfl
      have f1 : DataW.trod enc Try.prog W 0 (fun _ => true) true n 35 (List.take (Try.prog.cellsOf 35) [c1, c2, c3, c4, c5]) = some y1 := hg 1 _ rfl
      have f2 : DataW.trod enc Try.prog W 0 (fun _ => true) true n 35 (List.take (Try.prog.cellsOf 35) [c2, c3, c4, c5]) = some y2 := hg 2 _ rfl
      have f3 : DataW.trod enc Try.prog W 0 (fun _ => true) true n 3 (List.take (Try.prog.cellsOf 3) [c3, c4, c5]) = some y3 := hg 3 _ rfl
      have f4 : DataW.trod enc Try.prog W 0 (fun _ => true) true n 3 (List.take (Try.prog.cellsOf 3) [c4, c5]) = some y4 := hg 4 _ rfl
      have f5 : DataW.trod enc Try.prog W 0 (fun _ => true) true n 42 (List.take (Try.prog.cellsOf 42) [c5]) = some y5 := hg 5 _ rfl
      rw [cellsI] at f0 f3 f4
      rw [cellsP] at f1 f2
      rw [cellsU] at f5
      obtain ⟨o, rfl⟩ := int_of (show DataW.trod enc Try.prog W 0 (fun _ => true) true n 3 [c0] = some y0 from f0)
      obtain ⟨A, ca, a, rfl, h1c, h1⟩ := path_of (show DataW.trod enc Try.prog W 0 (fun _ => true) true n 35 [c1] = some y1 from f1)
      obtain ⟨B, cb, b, rfl, h2c, h2⟩ := path_of (show DataW.trod enc Try.prog W 0 (fun _ => true) true n 35 [c2] = some y2 from f2)
      obtain ⟨x, rfl⟩ := int_of (show DataW.trod enc Try.prog W 0 (fun _ => true) true n 3 [c3] = some y3 from f3)
      obtain ⟨y, rfl⟩ := int_of (show DataW.trod enc Try.prog W 0 (fun _ => true) true n 3 [c4] = some y4 from f4)
      obtain ⟨z, rfl⟩ := uint_of (show DataW.trod enc Try.prog W 0 (fun _ => true) true n 42 [c5] = some y5 from f5)
      exact ⟨o, A, ca, a, B, cb, b, x, y, z, rfl, h1c, h1, h2c, h2⟩
end Go.Proofs.Ythooeahpfegjbaa
namespace Go.Proofs.Ythooeahpfegjbaa
open Go.RowKit

section
variable {s : St} {p : Pn} (G : Gst s) (M : Mks s p)
include G M
theorem Mks.eqNum : (thAt (cdone s p).th p.num).eq (thAt s.th p.num) = false := Tng.eq_not fun e => by
  have h := M.tyIs G p.num
  rw [if_pos rfl, e, M.fre] at h
  have := M.kind
  omega
theorem Mks.eqElse {k : Nat} (h1 : k ≠ p.num) (h2 : k ≠ thOf s p.src) : (thAt (cdone s p).th k).eq (thAt s.th k) = true := Tng.eq_iff.2 (by rw [M.thIs G, if_neg h1, if_neg h2])
theorem Mks.eqRoom : thAt (cdone s p).th (thOf s p.src) = usedAs (thAt s.th (thOf s p.src)) p.used := by rw [M.thIs G, if_neg (M.room G).2.2.1, if_pos rfl]
theorem Mks.neDst : (slAt (cdone s p).sl p.dst).eq (slAt s.sl p.dst) = false := Bool.eq_false_iff.2 fun e => by
  have h := Sl.eq_iff.1 e
  rw [M.slIs, if_pos rfl, M.toEmp G] at h
  have := M.kind
  have := congrArg (fun x : Sl => x.c.ty) h
  simp only [Cp.none] at this
  omega
omit G in
theorem Mks.eqSl {k : Nat} (h : k ≠ p.dst) : (slAt (cdone s p).sl k).eq (slAt s.sl k) = true := Sl.eq_iff.2 (by rw [M.slIs, if_neg h])
end
theorem cdo_none {s : St} {t : Int} {c : Cl} {q : Rep} (h : cdo s t c = (none, q)) : q.err ≠ 0 := by
  rw [cdo] at h
  split at h
  · obtain ⟨h, -⟩ := Prod.mk.inj h; cases h
  · rename_i h1
    obtain ⟨-, h⟩ := Prod.mk.inj h
    rw [← h]
    exact h1
theorem cdo_some {s s' : St} {t : Int} {c : Cl} {q : Rep} (h : cdo s t c = (some s', q)) : ∃ p k, Plan s t c p k ∧ s' = cdone s p ∧ q = ⟨0, 0, p.num⟩ := by
  rw [cdo] at h
  split at h
  · rename_i h1
    obtain ⟨h2, h3⟩ := Prod.mk.inj h
    injection h2 with h2
    obtain ⟨k, hk⟩ := cplan_ok (p := (cplan s t c).1) (Prod.ext rfl h1)
    exact ⟨_, k, hk, h2.symm, h3.symm⟩
  · obtain ⟨h, -⟩ := Prod.mk.inj h; cases h
/-- behind i things: how many Rooms are changed, how many new ones there are -/
def rooms (r : Nat) (ch : Bool) (i : Nat) : Int := if r < i ∧ ch = true then 1 else 0
def news (k i : Nat) : Int := if k < i then 1 else 0
theorem rooms_at {r i : Nat} {ch : Bool} (h : i = r) (hc : ch = true) : rooms r ch i = 0 ∧ rooms r ch (i + 1) = 1 := by
  unfold rooms
  rw [if_neg (by omega), if_pos ⟨by omega, hc⟩]
  exact ⟨rfl, rfl⟩
theorem rooms_same {r i : Nat} {ch : Bool} (h : i = r → ch = false) : rooms r ch (i + 1) = rooms r ch i := by
  unfold rooms
  by_cases e : i = r
  · rw [if_neg (fun q => by rw [h e] at q; cases q.2), if_neg (fun q => by rw [h e] at q; cases q.2)]
  · by_cases q : r < i
    · cases ch
      · rw [if_neg (fun q => by cases q.2), if_neg (fun q => by cases q.2)]
      · rw [if_pos ⟨by omega, rfl⟩, if_pos ⟨q, rfl⟩]
    · rw [if_neg (fun k => by omega), if_neg (fun k => by omega)]
theorem rooms_in (r i : Nat) (ch : Bool) : 0 ≤ rooms r ch i ∧ rooms r ch i ≤ 1 := by
  unfold rooms
  split <;> omega
theorem news_at (k : Nat) : news k k = 0 ∧ news k (k + 1) = 1 := by
  unfold news
  rw [if_neg (by omega), if_pos (by omega)]
  exact ⟨rfl, rfl⟩
theorem news_same {k i : Nat} (h : i ≠ k) : news k (i + 1) = news k i := by
  unfold news
  by_cases q : k < i
  · rw [if_pos (by omega), if_pos q]
  · rw [if_neg (by omega), if_neg q]
theorem news_in (k i : Nat) : 0 ≤ news k i ∧ news k i ≤ 1 := by
  unfold news
  split <;> omega
def CrRel (V : World) (n : Nat) (f1 f2 : Nat → Int) (f : Nat) (p q v : Value) (wr : World) : Prop :=
  ∃ i : Nat, f + i = n ∧ p = .int .i64 (f1 i) ∧ q = .int .i64 (f2 i) ∧ v = .int .i64 i ∧ Below V.heap.size V wr
def CsRel (V : World) (n : Nat) (f1 : Nat → Int) (f : Nat) (p v : Value) (wr : World) : Prop :=
  ∃ i : Nat, f + i = n ∧ p = .int .i64 (f1 i) ∧ v = .int .i64 i ∧ Below V.heap.size V wr

set_option maxRecDepth 100000 in
set_option maxHeartbeats 16000000 in
theorem carve_room {s : St} {a b c : Int} {A C : Option Addr} {n ca m cc : Nat} {t o x y : Int} {PA PB : Option Addr} {na cpa nb cpb z : Nat} {la lb : List Int} {w : World} (hS : StAt w s A C) (hsg : s.g = ⟨a, b, c⟩) (hsn : n = s.sl.length) (hsm : m = s.th.length) (hsca : n ≤ ca) (hscc : m ≤ cc)
    (hna : na = la.length) (hcpa : na ≤ cpa) (hA : IntsAt w w.heap.size PA la) (hnb : nb = lb.length) (hcpb : nb ≤ cpb) (hB : IntsAt w w.heap.size PB lb) :
    Calls Try.prog 4 #[.agg #[.int .i64 a, .int .i64 b, .int .i64 c, .slice A n ca, .slice C m cc], .int .i64 t, .agg #[.int .i64 o, .slice PA na cpa, .slice PB nb cpb, .int .i64 x, .int .i64 y, .int .u64 (z : Int)]] w fun e w' => e = .returned (.bool true) ∧ Below w.heap.size w w' := by
  have HSA := Lib.hid hS
  have HSG := Lib.hid hsg
  have HSN := Lib.hid hsn
  have HSM := Lib.hid hsm
  have HSCA := Lib.hid hsca
  have HSCC := Lib.hid hscc
  clear hsg hsn hsm hsca hscc
  have HNA := Lib.hid hna
  have HNB := Lib.hid hnb
  have HCPA := Lib.hid hcpa
  have HCPB := Lib.hid hcpb
  have HA := Lib.hid hA
  have HB := Lib.hid hB
  have t0 := Bxs.new w [.int .i64 a, .int .i64 b, .int .i64 c, .slice A n ca, .slice C m cc] 28
  have c1 := Bxs.more t0.old [.int .i64 o, .slice PA na cpa, .slice PB nb cpb, .int .i64 x, .int .i64 y, .int .u64 (z : Int)] 51
  rw [show (w.alloc (.cells [.int .i64 a, .int .i64 b, .int .i64 c, .slice A n ca, .slice C m cc].toArray 28)).heap.size = w.heap.size + 1 by simp] at c1
  have t1 := t0.on (below_alloc _ (.cells #[.int .i64 o, .slice PA na cpa, .slice PB nb cpb, .int .i64 x, .int .i64 y, .int .u64 (z : Int)] 51))
  clear hS hna hnb hcpa hcpb hA hB t0
  obtain ⟨g, hg⟩ : ∃ g, g = w.heap.size := ⟨_, rfl⟩
  obtain ⟨g5, hg5⟩ : ∃ g5, g5 = w.heap.size + 1 := ⟨_, rfl⟩
  go_enter Try.func4, Try.ntmps4
  go_upto_region 1 with fail
  rw [← hg5] at c1 ⊢
  clear hg5 hg
  generalize (w.alloc _).alloc _ = w1 at t1 c1 ⊢
  have T1 := Lib.hid t1
  have C1 := Lib.hid c1
  clear t1 c1
  go_wp2_with fail
  refine (awake15_is w1).mono ?_
  rintro e w2 ⟨rfl, hb⟩
  have T2 := Lib.hid (T1.out.on hb)
  have C2 := Lib.hid (C1.out.on hb)
  clear hb T1 C1
  obtain ⟨hv, hhv⟩ : ∃ hv, (decide (100 < n) || (decide (50 < m) || (decide (10 < na) || decide (10 < nb)))) = hv := ⟨_, rfl⟩
  have HHV := Lib.hid hhv
  clear hhv
  have t0 := T2.out.c 0 _ rfl
  have t1 := T2.out.c 1 _ rfl
  have t2 := T2.out.c 2 _ rfl
  have t3 := T2.out.c 3 _ rfl
  have t4 := T2.out.c 4 _ rfl
  have k0 := C2.out.c 0 _ rfl
  have k1 := C2.out.c 1 _ rfl
  have k2 := C2.out.c 2 _ rfl
  have k3 := C2.out.c 3 _ rfl
  have k4 := C2.out.c 4 _ rfl
  have k5 := C2.out.c 5 _ rfl
  go_wp2_with fail
  refine (heavy15_is HHV.out w2).mono ?_
  rintro e w3 ⟨rfl, hb⟩
  have T3 := Lib.hid (T2.out.on hb)
  have C3 := Lib.hid (C2.out.on hb)
  clear hb T2 C2 t0 t1 t2 t3 t4 k0 k1 k2 k3 k4 k5
  cases hv with
  | true =>
    go_wp2
    go_ret
    exact ⟨rfl, T3.out.old⟩
  | false =>
  have HS : Hid (StH w s a b c A n ca C m cc) := Lib.hid (by
    have h := HHV.out
    simp only [Bool.or_eq_false_iff, decide_eq_false_iff_not] at h
    exact ⟨HSA.out, HSG.out, HSN.out, HSM.out, by omega, by omega, HSCA.out, HSCC.out⟩)
  clear HSA HSG HSN HSM HSCA HSCC
  obtain ⟨gd, hgd⟩ : ∃ gd, sgood s = gd := ⟨_, rfl⟩
  have HGD := Lib.hid hgd
  clear hgd
  have t0 := T3.out.c 0 _ rfl
  have t1 := T3.out.c 1 _ rfl
  have t2 := T3.out.c 2 _ rfl
  have t3 := T3.out.c 3 _ rfl
  have t4 := T3.out.c 4 _ rfl
  go_wp2_with fail
  refine (sgood_is (HS.out.on T3.out.old) HGD.out).mono ?_
  rintro e w4 ⟨rfl, hb⟩
  have T4 := Lib.hid (T3.out.on hb)
  have C4 := Lib.hid (C3.out.on hb)
  clear hb T3 C3 t0 t1 t2 t3 t4
  cases gd with
  | false =>
    go_wp2
    go_ret
    exact ⟨rfl, T4.out.old⟩
  | true =>
  by_cases ho : o = 1
  case neg =>
    have ho2 : (o != 1) = true := by simpa using ho
    have k0 := C4.out.c 0 _ rfl
    go_wp2
    go_ret
    exact ⟨rfl, T4.out.old⟩
  subst ho
  obtain ⟨r, hr⟩ : ∃ r, cdo s t ⟨1, la, lb, x, y, z⟩ = r := ⟨_, rfl⟩
  have HR := Lib.hid hr
  clear hr
  have t0 := T4.out.c 0 _ rfl
  have t1 := T4.out.c 1 _ rfl
  have t2 := T4.out.c 2 _ rfl
  have t3 := T4.out.c 3 _ rfl
  have t4 := T4.out.c 4 _ rfl
  have k0 := C4.out.c 0 _ rfl
  have k1 := C4.out.c 1 _ rfl
  have k2 := C4.out.c 2 _ rfl
  have k3 := C4.out.c 3 _ rfl
  have k4 := C4.out.c 4 _ rfl
  have k5 := C4.out.c 5 _ rfl
  go_wp2_with fail
  refine (do_is (HS.out.on T4.out.old) HNA.out HCPA.out (HA.out.on T4.out.old) HNB.out HCPB.out (HB.out.on T4.out.old) HR.out).mono ?_
  rintro e w5 ⟨A2, ca2, C2, cc2, rfl, hb, hm⟩
  have T5 := Lib.hid (T4.out.on hb)
  have C5 := Lib.hid (C4.out.on hb)
  clear t0 t1 t2 t3 t4 k0 k1 k2 k3 k4 k5 C4
  obtain ⟨r1, q⟩ := r
  cases r1 with
  | none =>
    obtain ⟨e1, e2, e3, e4⟩ := hm
    have e1 := e1.symm
    have e2 := e2.symm
    have e3 := e3.symm
    have e4 := e4.symm
    subst e1 e2 e3 e4
    have hq : ¬ q.err = 0 := cdo_none HR.out
    have hq2 : (q.err != 0) = true := by simpa using hq
    simp only [Rep.val]
    have N := Bxs.more T5.out.old [.int .i64 a, .int .i64 b, .int .i64 c, .slice A n ca, .slice C m cc] 28
    have M := Bxs.more N.old [.int .i64 q.err, .int .u64 (q.w : Int), .int .i64 q.n] 47
    rw [show (w5.alloc (.cells [.int .i64 a, .int .i64 b, .int .i64 c, .slice A n ca, .slice C m cc].toArray 28)).heap.size = w5.heap.size + 1 by simp] at M
    have hal := below_alloc (w5.alloc (.cells #[.int .i64 a, .int .i64 b, .int .i64 c, .slice A n ca, .slice C m cc] 28)) (.cells #[.int .i64 q.err, .int .u64 (q.w : Int), .int .i64 q.n] 47)
    have N2 := N.on hal
    have T7 := Lib.hid ((T5.out.on (below_alloc w5 (.cells #[.int .i64 a, .int .i64 b, .int .i64 c, .slice A n ca, .slice C m cc] 28))).on hal)
    clear hb hal N
    go_upto_region 6 with fail
    obtain ⟨j1, hj1⟩ : ∃ j1, j1 = w5.heap.size + 1 := ⟨_, rfl⟩
    rw [← hj1] at M ⊢
    clear hj1
    obtain ⟨j0, hj0⟩ : ∃ j0, j0 = w5.heap.size := ⟨_, rfl⟩
    rw [← hj0] at N2 ⊢
    clear hj0
    generalize (w5.alloc _).alloc _ = w7 at N2 M T7 ⊢
    have m0 := M.c 0 _ rfl
    have n0 := N2.c 0 _ rfl
    have n1 := N2.c 1 _ rfl
    have n2 := N2.c 2 _ rfl
    have n3 := N2.c 3 _ rfl
    have n4 := N2.c 4 _ rfl
    have t0 := T7.out.c 0 _ rfl
    have t1 := T7.out.c 1 _ rfl
    have t2 := T7.out.c 2 _ rfl
    have t3 := T7.out.c 3 _ rfl
    have t4 := T7.out.c 4 _ rfl
    go_wp2_with fail
    refine (psame_is (HS.out.on T7.out.old) (HS.out.on T7.out.old) (St.same_iff.2 rfl)).mono ?_
    rintro e w8 ⟨rfl, hb8⟩
    have HO := Lib.hid (below_on T7.out.old hb8)
    clear m0 n0 n1 n2 n3 n4 t0 t1 t2 t3 t4
    go_wp2
    go_ret
    exact ⟨rfl, HO.out⟩
  | some s' =>
  obtain ⟨hca, hcc, hF⟩ := hm
  obtain ⟨p, k, hplan, hs', hq⟩ := cdo_some HR.out
  subst hs' hq
  obtain ⟨hG, hM⟩ := hplan.mks
  have HM := Lib.hid hM
  have HG := Lib.hid hG
  have HPL := Lib.hid hplan
  have hsl := done_sl (s := s) (p := p)
  have hth := done_th (s := s) (p := p)
  obtain ⟨P, Q, rfl, rfl, hO⟩ := hF.ost (by rw [hsl]; exact Nat.lt_of_le_of_lt (Nat.zero_le _) hM.dst) (by rw [hth]; exact Nat.lt_of_le_of_lt (Nat.zero_le _) hM.num) hb
  simp only [Rep.val]
  have N := Bxs.more T5.out.old [.int .i64 a, .int .i64 b, .int .i64 c, .slice (some ⟨P, 0, none⟩) n ca2, .slice (some ⟨Q, 0, none⟩) m cc2] 28
  have M := Bxs.more N.old [.int .i64 0, .int .u64 ((0 : Nat) : Int), .int .i64 (p.num : Int)] 47
  rw [show (w5.alloc (.cells [.int .i64 a, .int .i64 b, .int .i64 c, .slice (some ⟨P, 0, none⟩) n ca2, .slice (some ⟨Q, 0, none⟩) m cc2].toArray 28)).heap.size = w5.heap.size + 1 by simp] at M
  have hal0 := below_alloc w5 (.cells #[.int .i64 a, .int .i64 b, .int .i64 c, .slice (some ⟨P, 0, none⟩) n ca2, .slice (some ⟨Q, 0, none⟩) m cc2] 28)
  have hal := below_alloc (w5.alloc (.cells #[.int .i64 a, .int .i64 b, .int .i64 c, .slice (some ⟨P, 0, none⟩) n ca2, .slice (some ⟨Q, 0, none⟩) m cc2] 28)) (.cells #[.int .i64 0, .int .u64 ((0 : Nat) : Int), .int .i64 (p.num : Int)] 47)
  have N7 := N.on hal
  have T7 := Lib.hid ((T5.out.on hal0).on hal)
  have C7 := Lib.hid ((C5.out.on hal0).on hal)
  have O7 := Lib.hid (((hO.base T4.out.old).on hal0).on hal)
  have HCA := Lib.hid hca
  have HCC := Lib.hid hcc
  clear hb hal hal0 N hO hF hG hM hplan hca hcc T5 C5 T4 hsl hth
  go_upto_region 6 with fail
  obtain ⟨j1, hj1⟩ : ∃ j1, j1 = w5.heap.size + 1 := ⟨_, rfl⟩
  rw [← hj1] at M ⊢
  clear hj1
  obtain ⟨j0, hj0⟩ : ∃ j0, j0 = w5.heap.size := ⟨_, rfl⟩
  rw [← hj0] at N7 ⊢
  clear hj0
  generalize (w5.alloc _).alloc _ = w7 at N7 M T7 C7 O7 ⊢
  have N8 := Lib.hid N7
  clear N7
  have M7 := Lib.hid M
  clear M
  have m0 := M7.out.c 0 _ rfl
  have k3 := C7.out.c 3 _ rfl
  have k4 := C7.out.c 4 _ rfl
  go_wp2_with fail
  refine (pcost_is HPL.out.cost).mono ?_
  rintro e w8 ⟨rfl, hw8⟩
  subst hw8
  simp only [cv, Option.getD_some, Option.isSome_some]
  clear m0 k3 k4
  have b1 : ((m : Int) != (m : Int)) = false := by simp
  have b2 : ((n : Int) != (n : Int)) = false := by simp
  have b3 : decide ((p.num : Int) < 0) = false := decide_eq_false (by omega)
  have b5 : decide (m ≤ p.num) = false := decide_eq_false (by have := HM.out.num; have := HS.out.hm; omega)
  have b4 : decide ((m : Int) ≤ (p.num : Int)) = false := decide_eq_false (by have := HM.out.num; have := HS.out.hm; omega)
  have n3 := N8.out.c 3 _ rfl
  have n4 := N8.out.c 4 _ rfl
  have t3 := T7.out.c 3 _ rfl
  have t4 := T7.out.c 4 _ rfl
  have m2 := M7.out.c 2 _ rfl
  go_upto_region 12 with fail
  clear b1 b2 b3 b4 b5 m2 n3 n4 t3 t4
  obtain ⟨sb, sp, rfl, hsb, hc⟩ := HS.out.lies.sl (Nat.lt_of_le_of_lt (Nat.zero_le _) HM.out.src)
  obtain ⟨tb, tp, rfl, htb, hd⟩ := HS.out.lies.th (Nat.lt_of_le_of_lt (Nat.zero_le _) HM.out.num)
  have HSC := Lib.hid hc
  have HTC := Lib.hid hd
  have HSB := Lib.hid hsb
  have HTB := Lib.hid htb
  clear hc hd hsb htb
  obtain ⟨rr, hrr⟩ : ∃ rr, thOf s p.src = rr := ⟨_, rfl⟩
  have HRR := Lib.hid hrr
  obtain ⟨ch, hch⟩ : ∃ ch, (!(thAt (cdone s p).th rr).eq (thAt s.th rr)) = ch := ⟨_, rfl⟩
  have HCH := Lib.hid hch
  clear hrr hch
  have HMM : Hid (m = s.th.length) := Lib.hid HS.out.hm
  have HNN : Hid (n = s.sl.length) := Lib.hid HS.out.hn
  have HM1 : Hid (m ≤ 1000 ∧ n ≤ 1000) := Lib.hid ⟨HS.out.fewm, HS.out.few⟩
  go_wp2_with fail
  go_loopg [11, 12, 13] m (fun f p1 q1 v1 wr => CrRel w8 m (rooms rr ch) (news p.num) f p1 q1 v1 wr)
  case atStart => exact ⟨0, by omega, by rw [rooms, if_neg (by omega)], by rw [news, if_neg (by omega)], rfl, below_self _⟩
  case round =>
    obtain ⟨i, hk, rfl, rfl, rfl, hb⟩ := hrel
    have HK := Lib.hid hk
    have HB := Lib.hid hb
    have TT := T7.out.on hb
    have NN := N8.out.on hb
    have MM := M7.out.on hb
    have t4 := TT.c 4 _ rfl
    clear hk
    by_cases hlt : i < m
    case neg =>
      have hi : i = m := by have := HK.out; omega
      have HJ := Lib.hid hi
      have hlt2 : decide ((i : Int) < (m : Int)) = false := decide_eq_false (by omega)
      have hlt3 : ¬ (i : Int) < (m : Int) := by omega
      have hlt4 : decide (i < m) = false := decide_eq_false hlt
      have RIN := rooms_in rr i ch
      have HRI : Hid (decide (rooms rr ch i ≤ 1) = true) := Lib.hid (decide_eq_true RIN.2)
      have HNI : Hid (news p.num i = 1) := Lib.hid (by rw [news, if_pos (by have := HM.out.num; have := HMM.out; omega)])
      have T9 := Lib.hid TT
      have N9 := Lib.hid NN
      have M9 := Lib.hid MM
      have O9 := Lib.hid (O7.out.on hb)
      clear hb TT NN MM hi RIN
      rw [HNI.out]
      generalize rooms rr ch i = R1 at HRI ⊢
      go_wp2_with fail
      clear t4 hlt2 hlt3 hlt4 hlt
      obtain ⟨wt, hwt⟩ : ∃ x, x = wr := ⟨_, rfl⟩
      subst hwt
      go_loopg [14, 15] n (fun f p1 v1 wr2 => CsRel wt n (news p.dst) f p1 v1 wr2)
      case atStart => exact ⟨0, by omega, by rw [news, if_neg (by omega)], rfl, below_self _⟩
      case round =>
        obtain ⟨j, hk, rfl, rfl, hb⟩ := hrel
        have HKJ := Lib.hid hk
        have TT := T9.out.on hb
        have NN := N9.out.on hb
        have MM := M9.out.on hb
        have t3 := TT.c 3 _ rfl
        clear hk
        by_cases hlt : j < n
        case neg =>
          have hj : j = n := by have := HKJ.out; omega
          have hlt2 : decide ((j : Int) < (n : Int)) = false := decide_eq_false (by omega)
          have hlt3 : ¬ (j : Int) < (n : Int) := by omega
          have hlt4 : decide (j < n) = false := decide_eq_false hlt
          have HNI2 : Hid (news p.dst j = 1) := Lib.hid (by rw [news, if_pos (by have := HM.out.dst; have := HNN.out; omega)])
          rw [HNI2.out]
          have HSD : Hid (∀ w', StAt w' (cdone s p) (some ⟨P, 0, none⟩) (some ⟨Q, 0, none⟩) → StH w' (cdone s p) a b c (some ⟨P, 0, none⟩) n ca2 (some ⟨Q, 0, none⟩) m cc2) := Lib.hid fun w' h => ⟨h, HS.out.hg, by rw [done_sl]; exact HS.out.hn, by rw [done_th]; exact HS.out.hm, HS.out.few, HS.out.fewm, HCA.out, HCC.out⟩
          have HFG : Hid (fgood (upsOf (cdone s p).sl) = true) := Lib.hid (HM.out.good HG.out).k5
          have HFR : Hid (optI (sfree s) = (p.num : Int)) := Lib.hid (by
            have h := HPL.out.num
            unfold cnum at h
            split at h
            · cases h
            · split at h
              · cases h
              · rename_i q hq
                rw [Option.map_eq_some_iff] at h
                obtain ⟨_, -, e⟩ := h
                rw [hq, ← (Prod.mk.inj e).1]
                rfl)
          have HOO := Lib.hid ((O9.out.on hb).on (below_self wr).drew)
          have R1b := HRI.out
          go_wp2_with fail
          clear t3
          refine wp_region_held_drew (S := (fun w' => w'.cell? ⟨j0, 0, none⟩ = some (.int .i64 a) ∧ w'.cell? ⟨j0, 1, none⟩ = some (.int .i64 b) ∧ w'.cell? ⟨j0, 2, none⟩ = some (.int .i64 c) ∧ w'.cell? ⟨j0, 3, none⟩ = some (.slice (some ⟨P, 0, none⟩) n ca2) ∧ w'.cell? ⟨j0, 4, none⟩ = some (.slice (some ⟨Q, 0, none⟩) m cc2) ∧ w'.cell? ⟨w.heap.size, 0, none⟩ = some (.int .i64 a) ∧ w'.cell? ⟨w.heap.size, 1, none⟩ = some (.int .i64 b) ∧ w'.cell? ⟨w.heap.size, 2, none⟩ = some (.int .i64 c) ∧ w'.cell? ⟨w.heap.size, 3, none⟩ = some (.slice (some ⟨sb, sp, none⟩) n ca) ∧ w'.cell? ⟨w.heap.size, 4, none⟩ = some (.slice (some ⟨tb, tp, none⟩) m cc) ∧ w'.cell? ⟨j1, 2, none⟩ = some (.int .i64 (p.num : Int)))) (by kernel_rfl) ⟨NN.drew.c 0 _ rfl, NN.drew.c 1 _ rfl, NN.drew.c 2 _ rfl, NN.drew.c 3 _ rfl, NN.drew.c 4 _ rfl, TT.drew.c 0 _ rfl, TT.drew.c 1 _ rfl, TT.drew.c 2 _ rfl, TT.drew.c 3 _ rfl, TT.drew.c 4 _ rfl, MM.drew.c 2 _ rfl⟩ (fun hHeld => ?_)
          have HN_v := Lib.hid NN.drew
          have HT_v := Lib.hid TT.drew
          have HM_v := Lib.hid MM.drew
          clear TT NN MM hb
          generalize wr.drew = v at HN_v HT_v HM_v HOO hHeld ⊢
          have HO_v := HOO
          refine wpAnyH_take (i := 0) (v := ?_) rfl (by kernel_rfl) (by kernel_rfl) (by kernel_rfl) (fun _ _ _ h => h) (Or.inl ⟨by rfl, ?_⟩) (by assumption) ?_
          rotate_left
          · intro w hSw; go_split_ands; go_simp; try with_reducible rfl
          simp only [Act.put, List.setIfInBounds_toArray, List.set_cons_zero, List.set_cons_succ, List.getElem_toArray, List.getElem_cons_zero]
          refine wpAnyH_take (i := 1) (v := ?_) rfl (by kernel_rfl) (by kernel_rfl) (by kernel_rfl) (fun _ _ _ h => h) (Or.inl ⟨by rfl, ?_⟩) (by assumption) ?_
          rotate_left
          · intro w hSw; go_split_ands; go_simp; try with_reducible rfl
          simp only [Act.put, List.setIfInBounds_toArray, List.set_cons_zero, List.set_cons_succ, List.getElem_toArray, List.getElem_cons_zero, List.getElem_cons_succ]
          refine wpAnyH_take (i := 2) (v := ?_) rfl (by kernel_rfl) (by kernel_rfl) (by kernel_rfl) (fun _ _ _ h => h) (Or.inl ⟨by rfl, ?_⟩) (by assumption) ?_
          rotate_left
          · intro w hSw; go_split_ands; go_simp; try with_reducible rfl
          simp only [Act.put, List.setIfInBounds_toArray, List.set_cons_zero, List.set_cons_succ, List.getElem_toArray, List.getElem_cons_zero, List.getElem_cons_succ]
          refine wpAnyH_take (i := 3) (v := ?_) rfl (by kernel_rfl) (by kernel_rfl) (by kernel_rfl) (fun _ _ _ h => h) (Or.inl ⟨by rfl, ?_⟩) (by assumption) ?_
          rotate_left
          · intro w hSw; go_split_ands; go_simp; try with_reducible rfl
          simp only [Act.put, List.setIfInBounds_toArray, List.set_cons_zero, List.set_cons_succ, List.getElem_toArray, List.getElem_cons_zero, List.getElem_cons_succ]
          refine wpAnyH_take (i := 4) (v := ?_) rfl (by kernel_rfl) (by kernel_rfl) (by kernel_rfl) (fun _ _ _ h => h) (Or.inl ⟨by rfl, ?_⟩) (by assumption) ?_
          rotate_left
          · intro w hSw; go_split_ands; go_simp; try with_reducible rfl
          simp only [Act.put, List.setIfInBounds_toArray, List.set_cons_zero, List.set_cons_succ, List.getElem_toArray, List.getElem_cons_zero, List.getElem_cons_succ]
          refine wpAnyH_take (i := 5) (v := ?_) rfl (by kernel_rfl) (by kernel_rfl) (by kernel_rfl) (fun _ _ _ h => h) (Or.inl ⟨by rfl, ?_⟩) (by assumption) ?_
          rotate_left
          · intro w hSw; go_split_ands; go_simp; try with_reducible rfl
          simp only [Act.put, List.setIfInBounds_toArray, List.set_cons_zero, List.set_cons_succ, List.getElem_toArray, List.getElem_cons_zero, List.getElem_cons_succ]
          refine wpAnyH_take (i := 6) (v := ?_) rfl (by kernel_rfl) (by kernel_rfl) (by kernel_rfl) (fun _ _ _ h => h) (Or.inl ⟨by rfl, ?_⟩) (by assumption) ?_
          rotate_left
          · intro w hSw; go_split_ands; go_simp; try with_reducible rfl
          simp only [Act.put, List.setIfInBounds_toArray, List.set_cons_zero, List.set_cons_succ, List.getElem_toArray, List.getElem_cons_zero, List.getElem_cons_succ]
          refine wpAnyH_take (i := 7) (v := ?_) rfl (by kernel_rfl) (by kernel_rfl) (by kernel_rfl) (fun _ _ _ h => h) (Or.inl ⟨by rfl, ?_⟩) (by assumption) ?_
          rotate_left
          · intro w hSw; go_split_ands; go_simp; try with_reducible rfl
          simp only [Act.put, List.setIfInBounds_toArray, List.set_cons_zero, List.set_cons_succ, List.getElem_toArray, List.getElem_cons_zero, List.getElem_cons_succ]
          refine wpAnyH_take (i := 8) (v := ?_) rfl (by kernel_rfl) (by kernel_rfl) (by kernel_rfl) (fun _ _ _ h => h) (Or.inl ⟨by rfl, ?_⟩) (by assumption) ?_
          rotate_left
          · intro w hSw; go_split_ands; go_simp; try with_reducible rfl
          simp only [Act.put, List.setIfInBounds_toArray, List.set_cons_zero, List.set_cons_succ, List.getElem_toArray, List.getElem_cons_zero, List.getElem_cons_succ]
          refine wpAnyH_take (i := 9) (v := ?_) rfl (by kernel_rfl) (by kernel_rfl) (by kernel_rfl) (fun _ _ _ h => h) (Or.inl ⟨by rfl, ?_⟩) (by assumption) ?_
          rotate_left
          · intro w hSw; go_split_ands; go_simp; try with_reducible rfl
          simp only [Act.put, List.setIfInBounds_toArray, List.set_cons_zero, List.set_cons_succ, List.getElem_toArray, List.getElem_cons_zero, List.getElem_cons_succ]
          refine wpAnyH_take (i := 10) (v := ?_) rfl (by kernel_rfl) (by kernel_rfl) (by kernel_rfl) (fun _ _ _ h => h) (Or.inl ⟨by rfl, ?_⟩) (by assumption) ?_
          rotate_left
          · intro w hSw; go_split_ands; go_simp; try with_reducible rfl
          simp only [Act.put, List.setIfInBounds_toArray, List.set_cons_zero, List.set_cons_succ, List.getElem_toArray, List.getElem_cons_zero, List.getElem_cons_succ]
          refine wpAnyH_take (i := 11) (v := ?_) rfl (by kernel_rfl) (by kernel_rfl) (by kernel_rfl) (fun _ _ _ h => h) (Or.inl ⟨by rfl, ?_⟩) (by assumption) ?_
          rotate_left
          · intro w hSw; go_split_ands; go_simp; try with_reducible rfl
          simp only [Act.put, List.setIfInBounds_toArray, List.set_cons_zero, List.set_cons_succ, List.getElem_toArray, List.getElem_cons_zero, List.getElem_cons_succ]
          refine wpAnyH_ready (rs := [12]) (by kernel_rfl) (by simp) ?_
          refine AllReadyH.cons rfl (fun K hK => ?_) AllReadyH.nil
          go_simp
          refine (pforest_is (s := cdone s p) (HSD.out _ (HO_v.out.on (below_self v)).lies) rfl).mono ?_
          rintro e v1 ⟨B9, cb9, rfl, hcb, hI, hb⟩
          have HI9 := Lib.hid hI
          obtain ⟨u9, hu9⟩ : ∃ u9, u9 = (upsOf (cdone s p).sl).length := ⟨_, rfl⟩
          have HU9 := Lib.hid hu9
          rw [← hu9]
          have HN_v1 := Lib.hid (HN_v.out.on hb)
          have HT_v1 := Lib.hid (HT_v.out.on hb)
          have HM_v1 := Lib.hid (HM_v.out.on hb)
          clear hb hI hcb hu9
          refine hK.out _ _ ⟨HN_v1.out.c 0 _ rfl, HN_v1.out.c 1 _ rfl, HN_v1.out.c 2 _ rfl, HN_v1.out.c 3 _ rfl, HN_v1.out.c 4 _ rfl, HT_v1.out.c 0 _ rfl, HT_v1.out.c 1 _ rfl, HT_v1.out.c 2 _ rfl, HT_v1.out.c 3 _ rfl, HT_v1.out.c 4 _ rfl, HM_v1.out.c 2 _ rfl⟩ (fun hHeld => ?_)
          clear hK K
          try simp only [Act.put, List.setIfInBounds_toArray, List.set_cons_zero, List.set_cons_succ]
          refine wpAnyH_ready (rs := [13]) (by kernel_rfl) (by simp) ?_
          refine AllReadyH.cons rfl (fun K hK => ?_) AllReadyH.nil
          go_simp
          refine (pgood_is HU9.out HI9.out HFG.out).mono ?_
          rintro e v2 ⟨rfl, hb⟩
          have HN_v2 := Lib.hid (HN_v1.out.on hb)
          have HT_v2 := Lib.hid (HT_v1.out.on hb)
          have HM_v2 := Lib.hid (HM_v1.out.on hb)
          clear hb
          refine hK.out _ _ ⟨HN_v2.out.c 0 _ rfl, HN_v2.out.c 1 _ rfl, HN_v2.out.c 2 _ rfl, HN_v2.out.c 3 _ rfl, HN_v2.out.c 4 _ rfl, HT_v2.out.c 0 _ rfl, HT_v2.out.c 1 _ rfl, HT_v2.out.c 2 _ rfl, HT_v2.out.c 3 _ rfl, HT_v2.out.c 4 _ rfl, HM_v2.out.c 2 _ rfl⟩ (fun hHeld => ?_)
          clear hK K
          try simp only [Act.put, List.setIfInBounds_toArray, List.set_cons_zero, List.set_cons_succ]
          refine wpAnyH_take (i := 14) (v := ?_) rfl (by kernel_rfl) (by kernel_rfl) (by kernel_rfl) (fun _ _ _ h => h) (Or.inl ⟨by rfl, ?_⟩) (by assumption) ?_
          rotate_left
          · intro w hSw; go_split_ands; go_simp; try with_reducible rfl
          simp only [Act.put, List.setIfInBounds_toArray, List.set_cons_zero, List.set_cons_succ, List.getElem_toArray, List.getElem_cons_zero, List.getElem_cons_succ]
          refine wpAnyH_take (i := 15) (v := ?_) rfl (by kernel_rfl) (by kernel_rfl) (by kernel_rfl) (fun _ _ _ h => h) (Or.inl ⟨by rfl, ?_⟩) (by assumption) ?_
          rotate_left
          · intro w hSw; go_split_ands; go_simp; try with_reducible rfl
          simp only [Act.put, List.setIfInBounds_toArray, List.set_cons_zero, List.set_cons_succ, List.getElem_toArray, List.getElem_cons_zero, List.getElem_cons_succ]
          refine wpAnyH_take (i := 16) (v := ?_) rfl (by kernel_rfl) (by kernel_rfl) (by kernel_rfl) (fun _ _ _ h => h) (Or.inl ⟨by rfl, ?_⟩) (by assumption) ?_
          rotate_left
          · intro w hSw; go_split_ands; go_simp; try with_reducible rfl
          simp only [Act.put, List.setIfInBounds_toArray, List.set_cons_zero, List.set_cons_succ, List.getElem_toArray, List.getElem_cons_zero, List.getElem_cons_succ]
          refine wpAnyH_take (i := 18) (v := ?_) rfl (by kernel_rfl) (by kernel_rfl) (by kernel_rfl) (fun _ _ _ h => h) (Or.inl ⟨by rfl, ?_⟩) (by assumption) ?_
          rotate_left
          · intro w hSw; go_split_ands; go_simp; try with_reducible rfl
          simp only [Act.put, List.setIfInBounds_toArray, List.set_cons_zero, List.set_cons_succ, List.getElem_toArray, List.getElem_cons_zero, List.getElem_cons_succ]
          refine wpAnyH_take (i := 19) (v := ?_) rfl (by kernel_rfl) (by kernel_rfl) (by kernel_rfl) (fun _ _ _ h => h) (Or.inl ⟨by rfl, ?_⟩) (by assumption) ?_
          rotate_left
          · intro w hSw; go_split_ands; go_simp; try with_reducible rfl
          simp only [Act.put, List.setIfInBounds_toArray, List.set_cons_zero, List.set_cons_succ, List.getElem_toArray, List.getElem_cons_zero, List.getElem_cons_succ]
          refine wpAnyH_ready (rs := [17]) (by kernel_rfl) (by simp) ?_
          refine AllReadyH.cons rfl (fun K hK => ?_) AllReadyH.nil
          go_simp
          refine (pfree_is (HS.out.on HT_v2.out.old) HFR.out).mono ?_
          rintro e v3 ⟨rfl, hb⟩
          have HN_v3 := Lib.hid (HN_v2.out.on hb)
          have HT_v3 := Lib.hid (HT_v2.out.on hb)
          have HM_v3 := Lib.hid (HM_v2.out.on hb)
          clear hb
          refine hK.out _ _ ⟨HN_v3.out.c 0 _ rfl, HN_v3.out.c 1 _ rfl, HN_v3.out.c 2 _ rfl, HN_v3.out.c 3 _ rfl, HN_v3.out.c 4 _ rfl, HT_v3.out.c 0 _ rfl, HT_v3.out.c 1 _ rfl, HT_v3.out.c 2 _ rfl, HT_v3.out.c 3 _ rfl, HT_v3.out.c 4 _ rfl, HM_v3.out.c 2 _ rfl⟩ (fun hHeld => ?_)
          clear hK K
          try simp only [Act.put, List.setIfInBounds_toArray, List.set_cons_zero, List.set_cons_succ]
          refine wpAnyH_take (i := 20) (v := ?_) rfl (by kernel_rfl) (by kernel_rfl) (by kernel_rfl) (fun _ _ _ h => h) (Or.inl ⟨by rfl, ?_⟩) (by assumption) ?_
          rotate_left
          · intro w hSw; go_split_ands; go_simp; try with_reducible rfl
          simp only [Act.put, List.setIfInBounds_toArray, List.set_cons_zero, List.set_cons_succ, List.getElem_toArray, List.getElem_cons_zero, List.getElem_cons_succ]
          refine wpAnyH_take (i := 21) (v := ?_) rfl (by kernel_rfl) (by kernel_rfl) (by kernel_rfl) (fun _ _ _ h => h) (Or.inl ⟨by rfl, ?_⟩) (by assumption) ?_
          rotate_left
          · intro w hSw; go_split_ands; go_simp; try with_reducible rfl
          simp only [Act.put, List.setIfInBounds_toArray, List.set_cons_zero, List.set_cons_succ, List.getElem_toArray, List.getElem_cons_zero, List.getElem_cons_succ]
          refine wpAnyH_take (i := 22) (v := ?_) rfl (by kernel_rfl) (by kernel_rfl) (by kernel_rfl) (fun _ _ _ h => h) (Or.inl ⟨by rfl, ?_⟩) (by assumption) ?_
          rotate_left
          · intro w hSw; go_split_ands; go_simp; try with_reducible rfl
          simp only [Act.put, List.setIfInBounds_toArray, List.set_cons_zero, List.set_cons_succ, List.getElem_toArray, List.getElem_cons_zero, List.getElem_cons_succ]
          refine wpAnyH_done (by kernel_rfl) ?_ _
          go_wp2
          go_ret
          exact ⟨rfl, HT_v3.out.old⟩
        case pos =>
          have hlt2 : (j : Int) < (n : Int) := by omega
          have hlt3 : decide ((j : Int) < (n : Int)) = true := decide_eq_true hlt2
          have hOS := (O9.out.on hb).sl j (by rw [done_sl, ← HNN.out]; exact hlt)
          have hX : SlC wr sb (sp + j * 5) (slAt s.sl j) := (HSC.out j (by rw [← HNN.out]; exact hlt)).same fun k => TT.old.cell (p := ⟨sb, k, none⟩) HSB.out
          have heq := fun w => peqslot (slAt (cdone s p).sl j) (slAt s.sl j) w
          obtain ⟨ze, hze⟩ : ∃ ze, (slAt (cdone s p).sl j).eq (slAt s.sl j) = ze := ⟨_, rfl⟩
          have HZE := Lib.hid hze
          rw [hze] at heq
          have HB2 := Lib.hid hb
          have n3 := NN.c 3 _ rfl
          generalize slAt (cdone s p).sl j = u at hOS heq
          generalize slAt s.sl j = v at hX heq
          obtain ⟨⟨uy, uh, ur, ub⟩, uu⟩ := u
          obtain ⟨⟨vy, vh, vr, vb⟩, vu⟩ := v
          obtain ⟨x0, x1, x2, x3, x4⟩ := hX
          have y0 := hOS 0 _ rfl
          have y1 := hOS 1 _ rfl
          have y2 := hOS 2 _ rfl
          have y3 := hOS 3 _ rfl
          have y4 := hOS 4 _ rfl
          simp only [Sl.val, Nat.add_zero] at x0 x1 x2 x3 x4 y0 y1 y2 y3 y4 heq
          have NIN := news_in p.dst j
          have hw : wrap64 (news p.dst j + 1) = news p.dst j + 1 := w64_in (by omega) (by omega)
          have HW2 : Hid (wrap64 ((j : Int) + 1) = ((j + 1 : Nat) : Int)) := Lib.hid (by rw [w64_in (by omega) (by have := HM1.out; omega)]; omega)
          clear hOS hb TT NN MM hze NIN
          obtain ⟨N2, hN2⟩ : ∃ N2, news p.dst j = N2 := ⟨_, rfl⟩
          rw [hN2] at hw ⊢
          have HN2 := Lib.hid hN2
          have HJN := Lib.hid hlt
          have cne : (i = i) := rfl
          clear hN2 cne
          go_wp2_with fail
          go_big_quiet (fail)
          have HB3 := Lib.hid (below_draws HB2.out 8)
          clear x0 x1 x2 x3 x4 y0 y1 y2 y3 y4 heq n3 t3
          cases ze with
          | false =>
            have hjd : j = p.dst := Decidable.byContradiction fun q => by
              have := HM.out.eqSl q
              rw [HZE.out] at this
              cases this
            have HJD := Lib.hid hjd
            clear hjd
            go_wp2
            go_roundg (n - (j + 1))
            case measure => have := HKJ.out; have := HJN.out; omega
            case rel =>
              refine ⟨j + 1, by have := HJN.out; omega, ?_, by first | go_num | exact congrArg _ HW2.out, below_draws HB2.out _⟩
              have e1 := (news_at p.dst)
              rw [← HJD.out] at e1
              have e2 := HN2.out
              rw [← HJD.out] at e2 ⊢
              refine congrArg _ ?_
              omega
          | true =>
            have hjd : j ≠ p.dst := fun q => by
              have := HM.out.neDst HG.out
              rw [← q, HZE.out] at this
              cases this
            have HJD := Lib.hid hjd
            clear hjd
            go_wp2
            go_roundg (n - (j + 1))
            case measure => have := HKJ.out; have := HJN.out; omega
            case rel =>
              refine ⟨j + 1, by have := HJN.out; omega, ?_, by first | go_num | exact congrArg _ HW2.out, below_draws HB2.out _⟩
              rw [news_same HJD.out, HN2.out]
    case pos =>
      have hlt2 : (i : Int) < (m : Int) := by omega
      have hlt3 : decide ((i : Int) < (m : Int)) = true := decide_eq_true hlt2
      have HLT := Lib.hid hlt
      have hOT := (O7.out.on hb).th i (by rw [done_th, ← HMM.out]; exact hlt)
      have hX : ThC wr tb (tp + i * 13) (thAt s.th i) := (HTC.out i (by rw [← HMM.out]; exact hlt)).same fun k => TT.old.cell (p := ⟨tb, k, none⟩) HTB.out
      have hY : ThC wr Q (i * 13) (thAt (cdone s p).th i) := ⟨hOT 0 _ rfl, hOT 1 _ rfl, hOT 2 _ rfl, hOT 3 _ rfl, hOT 4 _ rfl, hOT 5 _ rfl, hOT 6 _ rfl, hOT 7 _ rfl, hOT 8 _ rfl, hOT 9 _ rfl, hOT 10 _ rfl, hOT 11 _ rfl, hOT 12 _ rfl⟩
      have hQl := (O7.out.on hb).lQ
      have heq := fun w => teq26 (thAt (cdone s p).th i) (thAt s.th i) w
      obtain ⟨ze, hze⟩ : ∃ ze, (thAt (cdone s p).th i).eq (thAt s.th i) = ze := ⟨_, rfl⟩
      have HNUM : Hid (i = p.num → ze = false) := Lib.hid fun e => by
        rw [← hze, e]
        exact HM.out.eqNum HG.out
      have HELSE : Hid (ze = true → i = rr → ch = false) := Lib.hid fun e1 e2 => by
        rw [← HCH.out, ← e2, hze, e1]; rfl
      have HROOM : Hid (ze = false → i ≠ p.num → i = rr ∧ ch = true ∧ (thAt s.th i).ty = 1 ∧ k ≤ (thAt (cdone s p).th i).used ∧ (thAt (cdone s p).th i).used ≤ (thAt (cdone s p).th i).size) := Lib.hid fun e1 e2 => by
        have e3 : i = rr := Decidable.byContradiction fun q => by
          have := HM.out.eqElse HG.out e2 (by rw [HRR.out]; exact q)
          rw [hze, e1] at this
          cases this
        obtain ⟨r1, r2, r3, r4⟩ := HM.out.room HG.out
        have h5 := HM.out.eqRoom HG.out
        rw [HRR.out, ← e3] at h5 r2
        have h6 := HPL.out.us
        rw [HRR.out, ← e3] at h6
        refine ⟨e3, by rw [← HCH.out, ← e3, hze, e1]; rfl, r2, ?_, ?_⟩
        · rw [h5]
          show k ≤ p.used
          have h7 := HPL.out.used
          obtain ⟨q, hq, hql, hqg, hqt⟩ := croom_slot HPL.out.room
          have hu := (used_small (s := s) (k := (p.src : Int)) hqg (by
            have e : p.src = q := by omega
            simp only [roomB, Int.toNat_natCast, e, hqt]; simp [hql])).1
          omega
        · rw [h5]
          exact h6
      have n4 := NN.c 4 _ rfl
      generalize thAt (cdone s p).th i = u at hY heq HROOM hze
      generalize thAt s.th i = v at hX heq HROOM hze
      rw [hze] at heq
      clear hOT hze
      obtain ⟨uy, ubt, ubs, usz, uus, ufr, uba, ufu, uwo, ud0, ud1, ud2, ud3⟩ := u
      obtain ⟨vy, vbt, vbs, vsz, vus, vfr, vba, vfu, vwo, vd0, vd1, vd2, vd3⟩ := v
      obtain ⟨x0, x1, x2, x3, x4, x5, x6, x7, x8, x9, x10, x11, x12⟩ := hX
      obtain ⟨y0, y1, y2, y3, y4, y5, y6, y7, y8, y9, y10, y11, y12⟩ := hY
      simp only [Tng.val] at x0 x1 x2 x3 x4 x5 x6 x7 x8 x9 x10 x11 x12 y0 y1 y2 y3 y4 y5 y6 y7 y8 y9 y10 y11 y12 heq HROOM
      obtain ⟨N1, hN1⟩ : ∃ N1, rooms rr ch i = N1 := ⟨_, rfl⟩
      obtain ⟨N2, hN2⟩ : ∃ N2, news p.num i = N2 := ⟨_, rfl⟩
      have HN1 := Lib.hid hN1
      have HN2 := Lib.hid hN2
      rw [hN1, hN2]
      have HW1 : Hid (wrap64 (N1 + 1) = N1 + 1) := Lib.hid (w64_in (by have := rooms_in rr i ch; omega) (by have := rooms_in rr i ch; omega))
      have HW2 : Hid (wrap64 (N2 + 1) = N2 + 1) := Lib.hid (w64_in (by have := news_in p.num i; omega) (by have := news_in p.num i; omega))
      have HWI : Hid (wrap64 ((i : Int) + 1) = ((i + 1 : Nat) : Int)) := Lib.hid (by rw [w64_in (by omega) (by have := HM1.out; omega)]; omega)
      clear hN1 hN2
      go_wp2_with fail
      go_big_quiet (fail)
      have hbq := below_draws (below_self wr) nq
      have htl : tb < wr.heap.size := Nat.lt_of_lt_of_le HTB.out TT.old.size
      have z3 := (hbq.cell (p := ⟨Q, i * 13 + 3, none⟩) hQl).trans y3
      have z4 := (hbq.cell (p := ⟨Q, i * 13 + 4, none⟩) hQl).trans y4
      have z0 := (hbq.cell (p := ⟨tb, tp + i * 13, none⟩) htl).trans x0
      have TQ := Lib.hid (TT.on hbq)
      have NQ := Lib.hid (NN.on hbq)
      have MQ := Lib.hid (MM.on hbq)
      have HBQ := Lib.hid (below_on HB.out hbq)
      clear x0 x1 x2 x3 x4 x5 x6 x7 x8 x9 x10 x11 x12 y0 y1 y2 y3 y4 y5 y6 y7 y8 y9 y10 y11 y12 heq n4 t4 TT NN MM hb hbq htl hQl
      generalize wr.drewN nq = wq at z3 z4 z0 TQ NQ MQ HBQ ⊢
      cases ze with
      | true =>
        have e1 : i ≠ p.num := fun e => by have := HNUM.out e; cases this
        have HE1 := Lib.hid e1
        clear e1 z3 z4 z0
        go_wp2
        go_roundg (m - (i + 1))
        case measure => have := HK.out; have := HLT.out; omega
        case rel => exact ⟨i + 1, by have := HLT.out; omega, by rw [rooms_same (HELSE.out trivial), HN1.out], by rw [news_same HE1.out, HN2.out], by first | go_num | exact congrArg _ HWI.out, HBQ.out⟩
      | false =>
        have m2 := MQ.out.c 2 _ rfl
        by_cases e1 : i = p.num
        · have HE1 := Lib.hid e1
          have e2 : ((i : Int) == (p.num : Int)) = true := by rw [beq_iff_eq]; omega
          have e3 : (i == p.num) = true := by rw [beq_iff_eq]; exact e1
          have hw2 := HW2.out
          clear e1 z3 z4 z0
          go_wp2
          go_roundg (m - (i + 1))
          case measure => have := HK.out; have := HLT.out; omega
          case rel =>
            refine ⟨i + 1, by have := HLT.out; omega, ?_, ?_, by first | go_num | exact congrArg _ HWI.out, HBQ.out⟩
            · rw [rooms_same (fun e => absurd ((HRR.out.trans e.symm).trans HE1.out) (HM.out.room HG.out).2.2.1), HN1.out]
            · have e4 := news_at p.num
              rw [← HE1.out] at e4
              have e5 := HN2.out
              rw [← HE1.out] at e5 ⊢
              refine congrArg _ ?_
              omega
        · have HE1 := Lib.hid e1
          have e2 : ((i : Int) == (p.num : Int)) = false := by rw [beq_eq_false_iff_ne]; omega
          have e3 : (i == p.num) = false := by rw [beq_eq_false_iff_ne]; exact e1
          obtain ⟨r1, r2, r3, r4, r5⟩ := HROOM.out rfl e1
          have HR1 := Lib.hid r1
          have HR2 := Lib.hid r2
          subst r3
          have q1 : decide (uus < k) = false := decide_eq_false (by omega)
          have q2 : decide (usz < uus) = false := decide_eq_false (by omega)
          have n4 := NQ.out.c 4 _ rfl
          have t4 := TQ.out.c 4 _ rfl
          have hw1 := HW1.out
          clear e1 r1 r2 r4 r5
          go_wp2_with fail
          go_big_quiet (fail)
          clear e2 e3 z3 z4 z0 q1 q2 n4 t4 m2
          go_wp2
          go_roundg (m - (i + 1))
          case measure => have := HK.out; have := HLT.out; omega
          case rel =>
            refine ⟨i + 1, by have := HLT.out; omega, ?_, by rw [news_same HE1.out, HN2.out], by first | go_num | exact congrArg _ HWI.out, below_draws HBQ.out _⟩
            have e4 := rooms_at HR1.out HR2.out
            have e5 := HN1.out
            refine congrArg _ ?_
            omega
end Go.Proofs.Ythooeahpfegjbaa
