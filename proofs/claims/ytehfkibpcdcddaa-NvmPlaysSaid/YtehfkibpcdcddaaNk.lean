/-
  The walk of package nvm's From: the memory that it makes. Condition: no more words than rows may have.
-/
import Derived.Test.YtehfkibpcdcddaaNj
namespace Go.Proofs.Ytehfkibpcdcddaa
open Go.RowKit

theorem wordsOf_set {l : List Ln} (h : ∀ r ∈ l, r.ok) : ∀ (k : Nat) (r r' : Ln) (j : Nat) (z : Int), l[k]? = some r → r'.N = r.N.set j z → j < 8 → wordsOf (l.set k r') = (wordsOf l).set (k * 8 + j) z := by
  unfold wordsOf
  induction l with
  | nil => intro k r r' j z hk; simp at hk
  | cons a t ih =>
    intro k r r' j z hk hr hj
    have ha : a.N.length = 8 := (h a (by simp)).2
    cases k with
    | zero =>
      simp at hk
      subst hk
      simp only [List.set_cons_zero, List.flatMap_cons, hr]
      rw [List.set_append_left _ _ (by omega)]
      simp
    | succ k =>
      simp at hk
      simp only [List.set_cons_succ, List.flatMap_cons]
      rw [ih (fun x hx => h x (by simp [hx])) k r r' j z hk hr hj, List.set_append_right _ _ (by omega), ha, show (k + 1) * 8 + j - 8 = k * 8 + j by omega]

/-- the first words of a list, behind them zeros -/
def firsts (l : List Int) (i : Nat) : List Int := l.take i ++ List.replicate (l.length - i) 0
theorem firsts_zero (l : List Int) : firsts l 0 = List.replicate l.length 0 := by unfold firsts; simp
theorem firsts_all (l : List Int) : firsts l l.length = l := by unfold firsts; simp
theorem firsts_succ {l : List Int} {i : Nat} {z : Int} (h : l[i]? = some z) : (firsts l i).set i z = firsts l (i + 1) := by
  have hi : i < l.length := (List.getElem?_eq_some_iff.1 h).1
  unfold firsts
  rw [List.set_append_right _ _ (by rw [List.length_take]; omega), List.length_take, show i - min i l.length = 0 by omega]
  obtain ⟨q, hq⟩ : ∃ q, l.length - i = q + 1 := ⟨l.length - i - 1, by omega⟩
  rw [hq, List.replicate_succ, List.set_cons_zero, List.take_add_one, h, show l.length - (i + 1) = q by omega]
  simp

structure FS (W w : World) (b rb F : Nat) (l : List Int) (R : List Ln) (i : Nat) : Prop where
  mem : MAt w b rb F ⟨R, false, 0, 0, fun _ => false⟩
  words : wordsOf R = firsts l i
  out : ∀ (j : Nat) (r : Ln), R[j]? = some r → j * 8 < i → r.out = true
  len : l.length = R.length * 8
  wb : W.heap.size ≤ b
  wr : W.heap.size ≤ rb
  old : Below W.heap.size W w
theorem FS.store {W w w' : World} {b rb F : Nat} {l : List Int} {R : List Ln} {i : Nat} {r : Ln} {z : Int} (h : FS W w b rb F l R i) (hr : R[i / 8]? = some r) (hz : l[i]? = some z)
    (ht : Turn w w' rb (i / 8 * 18) (r.store ((i % 8 : Nat) : Int) z)) : FS W w' b rb F l (R.set (i / 8) (r.store ((i % 8 : Nat) : Int) z)) (i + 1) := by
  have hst : r.store ((i % 8 : Nat) : Int) z = { r with N := r.N.set (i % 8) z, out := true, sent := false } := by
    unfold Ln.store
    rw [if_pos (by unfold inl; simp; omega), Int.toNat_natCast]
  have hn : (r.store ((i % 8 : Nat) : Int) z).N = r.N.set (i % 8) z := by rw [hst]
  refine ⟨h.mem.row ht, ?_, fun j r' hj hlt => ?_, by rw [List.length_set]; exact h.len, h.wb, h.wr, h.old.trans (ht.fr.below h.wr h.old.size)⟩
  · rw [wordsOf_set (h.mem.oks) (i / 8) r _ (i % 8) z hr hn (by omega), h.words, show i / 8 * 8 + i % 8 = i by omega, firsts_succ hz]
  · by_cases e : i / 8 = j
    · subst e
      rw [List.getElem?_set_self (by have := (List.getElem?_eq_some_iff.1 hr).1; exact this)] at hj
      injection hj with hj
      rw [← hj, hst]
    · rw [List.getElem?_set_ne e] at hj
      exact h.out j r' hj (by omega)

def FromRel (W : World) (b rb F : Nat) (l : List Int) (k : Nat) (p : Value) (wr : World) : Prop :=
  ∃ (i : Nat) (R : List Ln), k + i = l.length ∧ p = .int .i64 i ∧ FS W wr b rb F l R i
def FromRel2 (W : World) (b rb F : Nat) (R : List Ln) (k : Nat) (p : Value) (wr : World) : Prop :=
  ∃ i : Nat, k + i = R.length ∧ p = .int .i64 i ∧ MAt wr b rb F ⟨part (fun _ r => r.fall true) R i, false, 0, 0, fun _ => false⟩ ∧ Below W.heap.size W wr

theorem wordsOf_fall (l : List Ln) : wordsOf (l.mapIdx fun _ r => r.fall true) = wordsOf l := by
  unfold wordsOf
  have : (l.mapIdx fun _ r => r.fall true) = l.map fun r => r.fall true := by
    apply List.ext_getElem?; intro j; simp
  rw [this, List.flatMap_map]
  congr 1
  funext r
  show (r.fall true).N = r.N
  unfold Ln.fall settled
  split <;> simp

/-- what From makes: lines that last as they are, with these words -/
structure Made (l : List Int) (m : Mm) : Prop where
  words : m.words = l
  same : ∀ (j : Nat) (r : Ln), m.rows[j]? = some r → r = settled r.N
  off : m.off = false
  n : m.n = 0
  calls : m.calls = 0
  len : l.length = m.rows.length * 8

set_option maxHeartbeats 4000000 in
theorem from_any (A : Option Addr) (cap : Nat) (l : List Int) (w : World) (h0 : 0 < l.length) (h8 : l.length % 8 = 0) (h1 : l.length ≤ 32768) (hL : WordsAt w w.heap.size A l) :
    Calls Try.prog 10 #[.slice A l.length cap] w fun e w' => ∃ m, e = .returned (.tuple #[.pointer (some ⟨w.heap.size + 1, 0, none⟩), .int .i64 0]) ∧ MAt w' (w.heap.size + 1) w.heap.size (w.heap.size + 2) m ∧ Made l m ∧ Below w.heap.size w w' := by
  have LL := Lib.hid hL
  obtain ⟨q, hq⟩ : ∃ q, q = l.length := ⟨_, rfl⟩
  obtain ⟨n, hn⟩ : ∃ n, n = q / 8 := ⟨_, rfl⟩
  rw [← hq] at h0 h8 h1 ⊢
  have HQ := Lib.hid hq
  have HQN : Hid (q = n * 8) := Lib.hid (by omega)
  have HN := Lib.hid hn
  have hmod : (q : Int) % 8 = 0 := by omega
  have g1 : 1 ≤ n := by omega
  have g2 : n ≤ 4096 := by omega
  clear hq hn h8 h0
  go_enter Try.func10, Try.ntmps10
  go_wp2_with fail
  refine (new_any (q / 8) (by have := HN.out; omega) (by have := HN.out; omega) w).mono ?_
  rw [← HN.out]
  rintro e x0 ⟨rfl, hm, hs, hb⟩
  have hfs : FS w x0 (w.heap.size + 1) w.heap.size (w.heap.size + 2) l (List.replicate n blank) 0 := by
    refine ⟨hm, ?_, fun j r hj hlt => absurd hlt (by omega), by rw [List.length_replicate, ← HQ.out, HQN.out], by omega, by omega, hb⟩
    rw [firsts_zero, ← HQ.out, HQN.out]
    unfold wordsOf
    have : ∀ n : Nat, (List.replicate n blank).flatMap (·.N) = List.replicate (n * 8) (0 : Int) := fun n => by
      induction n with
      | zero => rfl
      | succ n ih => rw [List.replicate_succ, List.flatMap_cons, ih, show (n + 1) * 8 = 8 + n * 8 by omega, ← List.replicate_append_replicate]; rfl
    exact this n
  have HFS := Lib.hid hfs
  clear hfs hm hs hb
  obtain ⟨b, hbb⟩ : ∃ b, b = w.heap.size + 1 := ⟨_, rfl⟩
  obtain ⟨rb, hrb⟩ : ∃ rb, rb = w.heap.size := ⟨_, rfl⟩
  obtain ⟨F, hF⟩ : ∃ F, F = w.heap.size + 2 := ⟨_, rfl⟩
  have HBB := Lib.hid hbb
  have HRB := Lib.hid hrb
  have HFF := Lib.hid hF
  rw [← hbb, ← hF, ← hrb] at HFS
  rw [← hbb]
  clear hbb hrb hF
  go_wp2_with fail
  go_loopg [25] q (fun k p wr => FromRel w b rb F l k p wr)
  case atStart => exact ⟨0, _, HQ.out, rfl, HFS.out⟩
  case round =>
    obtain ⟨i, R, hk, rfl, hfs⟩ := hrel
    have HK := Lib.hid hk
    have HS := Lib.hid hfs
    have HRL : Hid (R.length = n) := Lib.hid (by have := hfs.len; have := HQ.out; have := HQN.out; omega)
    clear hk hfs HFS
    by_cases hlt : i < q
    · have HLT := Lib.hid hlt
      have hlt2 : (i : Int) < (q : Int) := by omega
      obtain ⟨bb, o, rfl, hblk, hcs⟩ := LL.out (by rw [← HQ.out]; omega)
      obtain ⟨z, hz⟩ : ∃ z, l[i]? = some z := ⟨l[i]'(by rw [← HQ.out]; exact hlt), List.getElem?_eq_getElem _⟩
      have c1 : wr.cell? ⟨bb, o + i, none⟩ = some (.int .u64 z) := by rw [← hcs i z hz]; exact HS.out.old.cell hblk
      obtain ⟨r, hr⟩ : ∃ r, R[i / 8]? = some r := ⟨R[i / 8]'(by rw [HRL.out]; have := HQN.out; omega), List.getElem?_eq_getElem _⟩
      have c0 := HS.out.mem.c0
      simp only at c0
      rw [HRL.out] at c0
      have HA := Lib.hid (HS.out.mem.rows _ _ hr)
      have HR := Lib.hid hr
      have HZ := Lib.hid hz
      have hdv : i / 8 < n := by have := HQN.out; omega
      clear hcs hblk hr hz
      go_wp2_with (go_at_call 38; refine (store_any rb _ _ z r _ HA.out).mono ?_; rintro e w' ⟨rfl, ht⟩; have HT := Lib.hid ht; clear ht)
      go_roundg (q - (i + 1))
      case measure => have := HK.out; have := HQ.out; have := HLT.out; omega
      case rel => exact ⟨i + 1, _, by have := HQ.out; have := HLT.out; omega, by go_num, HS.out.store HR.out HZ.out HT.out⟩
    · have hi : i = q := by have := HK.out; have := HQ.out; omega
      subst hi
      have c0 := HS.out.mem.c0
      simp only at c0
      rw [HRL.out] at c0
      go_wp2_with fail
      go_loopg [47] n (fun k p wr => FromRel2 w b rb F R k p wr)
      case atStart => exact ⟨0, HRL.out.symm, rfl, by rw [part_zero]; exact HS.out.mem, HS.out.old⟩
      case round =>
        obtain ⟨j, hk, rfl, hm, hb⟩ := hrel
        have HG := Lib.hid hk
        have HMW := Lib.hid hm
        have HB := Lib.hid hb
        clear hk hm hb c0
        by_cases hlt : j < n
        · have HLT := Lib.hid hlt
          have hlt2 : (j : Int) < (n : Int) := by omega
          obtain ⟨r, hr⟩ : ∃ r, R[j]? = some r := ⟨R[j]'(by rw [HRL.out]; exact hlt), List.getElem?_eq_getElem _⟩
          have HR := Lib.hid hr
          have HA := Lib.hid (HMW.out.rows j r (by rw [part_get]; exact hr))
          have c0 := HMW.out.c0
          simp only [part_length] at c0
          rw [HRL.out] at c0
          clear hr
          go_wp2_with (go_at_call 39; refine (evict_any rb (j * 18) r _ HA.out).mono ?_; rintro e w' ⟨rfl, ht⟩; have HT := Lib.hid ht; clear ht)
          go_roundg (n - (j + 1))
          case measure => have := HG.out; have := HRL.out; have := HLT.out; omega
          case rel =>
            have hrow := HMW.out.row HT.out
            simp only at hrow
            rw [part_succ (fun _ r => r.fall true) _ _ _ HR.out] at hrow
            exact ⟨j + 1, by have := HRL.out; have := HLT.out; omega, by go_num, hrow, HB.out.trans (HT.out.fr.below HS.out.wr HB.out.size)⟩
        · go_wp2
          go_ret2
          refine ⟨⟨R.mapIdx fun _ r => r.fall true, false, 0, 0, fun _ => false⟩, by rw [← HBB.out]; rfl, ?_, ?_, HB.out⟩
          · have := HMW.out
            rw [part_all _ _ _ (by rw [HRL.out]; omega)] at this
            rw [← HBB.out, ← HFF.out, ← HRB.out]
            exact this
          · refine ⟨?_, fun j r hr => ?_, rfl, rfl, rfl, by rw [List.length_mapIdx]; exact HS.out.len⟩
            · show wordsOf _ = l
              rw [wordsOf_fall, HS.out.words, HQ.out, firsts_all]
            · simp only [List.getElem?_mapIdx] at hr
              cases hq : R[j]? with
              | none => rw [hq] at hr; simp at hr
              | some s =>
                rw [hq] at hr
                simp at hr
                have hj : j < R.length := (List.getElem?_eq_some_iff.1 hq).1
                have ho := HS.out.out j s hq (by have := HS.out.len; have := HQ.out; omega)
                rw [← hr]
                unfold Ln.fall
                rw [if_pos ho]
                rfl

theorem from_no (A : Option Addr) (cap : Nat) (q : Nat) (w : World) (h1 : q ≤ 1000000) (h : decide ((q : Int) % 8 = 0) = false ∨ q = 0) :
    Calls Try.prog 10 #[.slice A q cap] w fun e w' => e = .returned (.tuple #[.pointer none, .int .i64 1]) ∧ w = w' := by
  rcases h with h | h
  · have h2 : ((q : Int) % 8 == 0) = false := by simpa using h
    clear h
    go_enter Try.func10, Try.ntmps10
    go_wp2
    go_ret2
    exact ⟨rfl, rfl⟩
  · subst h
    go_enter Try.func10, Try.ntmps10
    go_wp2_with (go_at_call 9; refine (new_no 0 (by omega) _).mono ?_; rintro e w' ⟨rfl, rfl⟩)
    go_ret2
    exact ⟨rfl, rfl⟩
end Go.Proofs.Ytehfkibpcdcddaa
