/-
  Ways as plain data: which may be, their words, their texts. No condition.
-/
import Derived.Test.YtfcifheejjppfaaDoorProg
import Derived.Lib.SplitLaws
import Derived.Lib.Join
import Derived.Lib.ItoaLen
import Derived.Lib.SmallJoins
import Derived.Below
namespace Go.Proofs.YtfcifheejjppfaaDoor
open Go.RowKit

/-- a step -/
def stepOk (z : Int) : Bool := decide (0 ≤ z) && decide (z ≤ 15)
/-- a way that may be -/
def pgood (l : List Int) : Bool := decide (1 ≤ l.length) && (decide (l.length ≤ 3) && l.all stepOk)
theorem stepOk_iff {z : Int} : stepOk z = true ↔ 0 ≤ z ∧ z ≤ 15 := by
  simp only [stepOk, Bool.and_eq_true, decide_eq_true_eq]
theorem pgood_iff {l : List Int} : pgood l = true ↔ 1 ≤ l.length ∧ l.length ≤ 3 ∧ ∀ z ∈ l, 0 ≤ z ∧ z ≤ 15 := by
  simp only [pgood, Bool.and_eq_true, decide_eq_true_eq, List.all_eq_true, stepOk_iff]
theorem pgood_len {l : List Int} (h : pgood l = true) : 1 ≤ l.length ∧ l.length ≤ 3 := ⟨(pgood_iff.1 h).1, (pgood_iff.1 h).2.1⟩
theorem pgood_at {l : List Int} (h : pgood l = true) {i : Nat} {z : Int} (hz : l[i]? = some z) : ∃ n : Nat, z = n ∧ n < 16 := by
  obtain ⟨h1, h2⟩ := (pgood_iff.1 h).2.2 z (List.mem_of_getElem? hz)
  exact ⟨z.toNat, by omega, by omega⟩
/-- its steps, first to last, to the base of 16 -/
def hex : List Int → Nat
  | [] => 0
  | z :: r => z.toNat + 16 * hex r
/-- its word -/
def pword (l : List Int) : Nat := l.length + 16 * hex l
theorem hex_lt : ∀ {l : List Int}, (∀ z ∈ l, 0 ≤ z ∧ z ≤ 15) → hex l < 16 ^ l.length
  | [], _ => by simp [hex]
  | z :: r, h => by
    have h1 := h z (List.mem_cons_self ..)
    have h2 := hex_lt (l := r) fun y hy => h y (List.mem_cons_of_mem _ hy)
    rw [hex, List.length_cons, Nat.pow_succ]
    omega
theorem hex_append : ∀ (l m : List Int), hex (l ++ m) = hex l + 16 ^ l.length * hex m
  | [], m => by simp [hex]
  | z :: r, m => by
    rw [List.cons_append, hex, hex_append r m, hex, List.length_cons, Nat.pow_succ]
    rw [Nat.mul_add, ← Nat.add_assoc, Nat.mul_comm (16 ^ r.length) 16, Nat.mul_assoc]
theorem hex_take {l : List Int} {i : Nat} {n : Nat} (h : l[i]? = some (n : Int)) : hex (l.take (i + 1)) = hex (l.take i) + 16 ^ i * n := by
  have hi : i < l.length := (List.getElem?_eq_some_iff.1 h).1
  rw [List.take_add_one, h, Option.toList_some, hex_append, List.length_take, Nat.min_eq_left (by omega)]
  simp [hex]
theorem hex_take_lt {l : List Int} (h : pgood l = true) (i : Nat) (hi : i ≤ l.length) : hex (l.take i) < 16 ^ i := by
  have := hex_lt (l := l.take i) fun z hz => (pgood_iff.1 h).2.2 z (List.mem_of_mem_take hz)
  rwa [List.length_take, Nat.min_eq_left hi] at this
theorem pword_lt {l : List Int} (h : pgood l = true) : pword l < 65536 := by
  have h1 := hex_lt (pgood_iff.1 h).2.2
  have h2 := pgood_len h
  have h3 : 16 ^ l.length ≤ 16 ^ 3 := Nat.pow_le_pow_right (by omega) h2.2
  unfold pword
  omega

/-- the steps of a word -/
def digs : Nat → Nat → List Int
  | 0, _ => []
  | n + 1, v => ((v % 16 : Nat) : Int) :: digs n (v / 16)
theorem digs_length : ∀ (n v : Nat), (digs n v).length = n
  | 0, _ => rfl
  | n + 1, v => by rw [digs, List.length_cons, digs_length]
theorem digs_ok : ∀ (n v : Nat), ∀ z ∈ digs n v, 0 ≤ z ∧ z ≤ 15
  | 0, _, z, hz => by simp [digs] at hz
  | n + 1, v, z, hz => by
    rw [digs, List.mem_cons] at hz
    rcases hz with rfl | hz
    · omega
    · exact digs_ok n (v / 16) z hz
theorem digs_get : ∀ (n v i : Nat), i < n → (digs n v)[i]? = some ((v / 16 ^ i % 16 : Nat) : Int)
  | 0, _, _, h => by omega
  | n + 1, v, 0, _ => by simp [digs]
  | n + 1, v, i + 1, h => by
    rw [digs, List.getElem?_cons_succ, digs_get n (v / 16) i (by omega), Nat.div_div_eq_div_mul, Nat.pow_succ, Nat.mul_comm 16]
theorem digs_good (n v : Nat) : pgood (digs n v) = (decide (1 ≤ n) && decide (n ≤ 3)) := by
  have h : (digs n v).all stepOk = true := List.all_eq_true.2 fun z hz => stepOk_iff.2 (digs_ok n v z hz)
  rw [pgood, digs_length, h, Bool.and_true]
theorem hex_digs : ∀ (n v : Nat), hex (digs n v) = v % 16 ^ n
  | 0, v => by simp [digs, hex, Nat.mod_one]
  | n + 1, v => by
    rw [digs, hex, hex_digs n (v / 16), Nat.pow_succ, Nat.mul_comm (16 ^ n) 16, Nat.mod_mul, Int.toNat_natCast]
theorem digs_hex : ∀ {l : List Int}, (∀ z ∈ l, 0 ≤ z ∧ z ≤ 15) → digs l.length (hex l) = l
  | [], _ => rfl
  | z :: r, h => by
    have h1 := h z (List.mem_cons_self ..)
    have h2 := digs_hex (l := r) fun y hy => h y (List.mem_cons_of_mem _ hy)
    rw [List.length_cons, digs, hex, show (z.toNat + 16 * hex r) / 16 = hex r by omega, h2, show (((z.toNat + 16 * hex r) % 16 : Nat) : Int) = z by omega]
/-- the way of a word -/
def pget (w : Nat) : Option (List Int) := if pgood (digs (w % 16) (w / 16)) = true then (if pword (digs (w % 16) (w / 16)) = w then some (digs (w % 16) (w / 16)) else none) else none
theorem pget_some {w : Nat} {l : List Int} (h : pget w = some l) : l = digs (w % 16) (w / 16) ∧ pgood l = true ∧ pword l = w := by
  unfold pget at h
  split at h
  · split at h
    · cases h
      exact ⟨rfl, by assumption, by assumption⟩
    · cases h
  · cases h
theorem pget_pword {l : List Int} (h : pgood l = true) : pget (pword l) = some l := by
  have h2 := pgood_len h
  have e1 : pword l % 16 = l.length := by unfold pword; omega
  have e2 : pword l / 16 = hex l := by unfold pword; omega
  have e3 := digs_hex (pgood_iff.1 h).2.2
  rw [pget, e1, e2, e3, if_pos h, if_pos rfl]
theorem pword_digs (w : Nat) : pword (digs (w % 16) (w / 16)) = w ↔ w / 16 / 16 ^ (w % 16) = 0 := by
  rw [pword, digs_length, hex_digs]
  have h := Nat.mod_add_div (w / 16) (16 ^ (w % 16))
  have h0 : 0 < 16 ^ (w % 16) := Nat.pow_pos (by omega)
  constructor
  · intro e
    have : w / 16 % 16 ^ (w % 16) = w / 16 := by omega
    have hlt : w / 16 < 16 ^ (w % 16) := this ▸ Nat.mod_lt _ h0
    exact Nat.div_eq_of_lt hlt
  · intro e
    rw [e, Nat.mul_zero] at h
    omega

/-- a step in base ten -/
def pdec (n : Nat) : List UInt8 := if n < 10 then [UInt8.ofNat (48 + n)] else [49, UInt8.ofNat (38 + n)]
theorem dec_eq {n : Nat} (h : n < 16) : Lib.decDigits n = pdec n := by
  unfold pdec
  split
  · rename_i h1
    rw [Lib.decDigits, dif_pos h1]
  · rename_i h1
    rw [Lib.decDigits, dif_neg h1, Lib.decDigits, dif_pos (by omega), show n / 10 = 1 by omega, show 48 + n % 10 = 38 + n by omega]
    rfl
/-- a way's text -/
def ptext (l : List Int) : List UInt8 := if pgood l = true then Lib.join (l.map fun z => pdec z.toNat) [46] else []
/-- one letter more -/
def feed (l : List Int) (c : UInt8) : List Int :=
  if c = 46 then l ++ [0] else if 48 ≤ c ∧ c ≤ 57 then l.dropLast ++ [10 * l.getLast! + (c.toNat - 48 : Nat)] else l
/-- the way of a text -/
def pparse (s : List UInt8) : Option (List Int) := if pgood ((s.take 9).foldl feed [0]) = true ∧ ptext ((s.take 9).foldl feed [0]) = s then some ((s.take 9).foldl feed [0]) else none
theorem pparse_some {s : List UInt8} {l : List Int} (h : pparse s = some l) : pgood l = true ∧ ptext l = s := by
  unfold pparse at h
  split at h
  · cases h
    assumption
  · cases h
theorem feed_point (l : List Int) : feed l 46 = l ++ [0] := by rw [feed, if_pos rfl]
theorem feed_num (l : List Int) (z : Int) {c : UInt8} (h0 : c ≠ 46) (h1 : 48 ≤ c ∧ c ≤ 57) : feed (l ++ [z]) c = l ++ [10 * z + (c.toNat - 48 : Nat)] := by
  rw [feed, if_neg h0, if_pos h1]
  simp
theorem dec_feed : ∀ n < 16, (pdec n).all (fun c => decide (c ≠ 46) && (decide (48 ≤ c) && decide (c ≤ 57))) = true ∧ (pdec n).foldl (fun (z : Int) c => 10 * z + (c.toNat - 48 : Nat)) 0 = (n : Int) := by decide +kernel
theorem fold_nums : ∀ (cs : List UInt8) (l : List Int) (z : Int), cs.all (fun c => decide (c ≠ 46) && (decide (48 ≤ c) && decide (c ≤ 57))) = true → cs.foldl feed (l ++ [z]) = l ++ [cs.foldl (fun (z : Int) c => 10 * z + (c.toNat - 48 : Nat)) z]
  | [], _, _, _ => rfl
  | c :: cs, l, z, h => by
    rw [List.all_cons, Bool.and_eq_true, Bool.and_eq_true, Bool.and_eq_true, decide_eq_true_eq, decide_eq_true_eq, decide_eq_true_eq] at h
    rw [List.foldl_cons, feed_num l z h.1.1 h.1.2, fold_nums cs l _ h.2, List.foldl_cons]
theorem fold_dec {n : Nat} (h : n < 16) (l : List Int) : (pdec n).foldl feed (l ++ [0]) = l ++ [(n : Int)] := by
  rw [fold_nums _ _ _ (dec_feed n h).1, (dec_feed n h).2]
theorem dec_length : ∀ n < 16, 1 ≤ (pdec n).length ∧ (pdec n).length ≤ 2 := by decide +kernel
theorem fold_tail : ∀ (r : List Int) (l : List Int), (∀ z ∈ r, 0 ≤ z ∧ z ≤ 15) → (Lib.joinTail [46] (r.map fun z => pdec z.toNat)).foldl feed l = l ++ r
  | [], l, _ => by simp [Lib.joinTail]
  | z :: r, l, h => by
    have h1 := h z (List.mem_cons_self ..)
    have h2 := fold_tail r (l ++ [z]) fun y hy => h y (List.mem_cons_of_mem _ hy)
    have e : Lib.joinTail [46] ((z :: r).map fun z => pdec z.toNat) = 46 :: (pdec z.toNat ++ Lib.joinTail [46] (r.map fun z => pdec z.toNat)) := by simp [Lib.joinTail]
    rw [e, List.foldl_cons, feed_point, List.foldl_append, fold_dec (by omega), show ((z.toNat : Nat) : Int) = z by omega, h2, List.append_assoc]
    rfl
theorem lens_le : ∀ (r : List Int), (∀ z ∈ r, 0 ≤ z ∧ z ≤ 15) → Lib.lens (r.map fun z => pdec z.toNat) ≤ 2 * r.length
  | [], _ => by simp [Lib.lens]
  | z :: r, h => by
    have h1 := h z (List.mem_cons_self ..)
    have h2 := lens_le r fun y hy => h y (List.mem_cons_of_mem _ hy)
    have h3 := dec_length z.toNat (by omega)
    have e : Lib.lens ((z :: r).map fun z => pdec z.toNat) = (pdec z.toNat).length + Lib.lens (r.map fun z => pdec z.toNat) := by simp [Lib.lens]
    rw [e, List.length_cons]
    omega
theorem ptext_cons {z : Int} {r : List Int} (h : pgood (z :: r) = true) : ptext (z :: r) = pdec z.toNat ++ Lib.joinTail [46] (r.map fun z => pdec z.toNat) := by
  rw [ptext, if_pos h, List.map_cons, Lib.join_cons]
theorem ptext_length {l : List Int} (h : pgood l = true) : (ptext l).length ≤ 8 := by
  obtain ⟨h1, h2, h3⟩ := pgood_iff.1 h
  match l, h1 with
  | z :: r, _ =>
    have e : ptext (z :: r) = Lib.join (pdec z.toNat :: r.map fun z => pdec z.toNat) [46] := by rw [ptext, if_pos h, List.map_cons]
    have := lens_le (z :: r) h3
    rw [e, Lib.join_length, List.length_map, ← List.map_cons (f := fun z : Int => pdec z.toNat)]
    simp only [List.length_cons, List.length_nil] at h2 this ⊢
    omega
theorem pparse_ptext {l : List Int} (h : pgood l = true) : pparse (ptext l) = some l := by
  obtain ⟨h1, _, h3⟩ := pgood_iff.1 h
  have hf : ((ptext l).take 9).foldl feed [0] = l := by
    rw [List.take_of_length_le (by have := ptext_length h; omega)]
    match l, h1 with
    | z :: r, _ =>
      have hz := h3 z (List.mem_cons_self ..)
      have := fold_dec (n := z.toNat) (by omega) []
      rw [ptext_cons h, List.foldl_append, show ([0] : List Int) = [] ++ [0] by rfl, this, List.nil_append, show ((z.toNat : Nat) : Int) = z by omega, fold_tail r [z] fun y hy => h3 y (List.mem_cons_of_mem _ hy)]
      rfl
  rw [pparse, hf, if_pos ⟨h, rfl⟩]
end Go.Proofs.YtfcifheejjppfaaDoor
