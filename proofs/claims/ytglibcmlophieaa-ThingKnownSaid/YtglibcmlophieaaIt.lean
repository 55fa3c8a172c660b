/-
  Fields of a word that stand one behind the other: what is put is one sum. No condition.
-/
import Derived.Test.YtglibcmlophieaaTa
namespace Go.Proofs.Ytglibcmlophieaa

/-- fields of these widths, one behind the other, from a bit on -/
def rowOf : Nat → List Nat → List Fd
  | _, [] => []
  | f, n :: ns => ⟨f, n⟩ :: rowOf (f + n) ns
/-- numbers of these widths, one above the other -/
def pack : List Nat → List Nat → Nat
  | n :: ns, v :: vs => v + 2 ^ n * pack ns vs
  | _, _ => 0
def packs : List Nat → List Nat → Bool
  | n :: ns, v :: vs => decide (v < 2 ^ n) && packs ns vs
  | _, _ => true
theorem or_sum {w v f : Nat} (h : w < 2 ^ f) : w ||| v * 2 ^ f = w + 2 ^ f * v := by
  rw [Nat.or_comm, Nat.mul_comm, ← Nat.two_pow_add_eq_or_of_lt h, Nat.add_comm]
theorem putFrom_pack : ∀ (ns vs : List Nat) (f w : Nat), vs.length = ns.length → packs ns vs = true → w < 2 ^ f → putFrom w (rowOf f ns) vs = some (w + 2 ^ f * pack ns vs)
  | [], [], _, _, _, _, _ => by simp [rowOf, putFrom, pack]
  | n :: ns, v :: vs, f, w, hl, hp, hw => by
    rw [packs, Bool.and_eq_true, decide_eq_true_eq] at hp
    have h1 : w + 2 ^ f * v < 2 ^ (f + n) := by
      rw [Nat.pow_add]
      have : 2 ^ f * v + 2 ^ f ≤ 2 ^ f * 2 ^ n := by
        have := Nat.mul_le_mul_left (2 ^ f) (show v + 1 ≤ 2 ^ n by omega)
        rwa [Nat.mul_add, Nat.mul_one] at this
      omega
    rw [rowOf, putFrom, Int.toNat_natCast, Int.toNat_natCast, if_pos hp.1, or_sum hw, putFrom_pack ns vs (f + n) _ (by simpa using hl) hp.2 h1, pack, Nat.mul_add, Nat.pow_add, Nat.mul_assoc, Nat.add_assoc]
theorem putFrom_over : ∀ (ns vs : List Nat) (f w : Nat), vs.length = ns.length → packs ns vs = false → putFrom w (rowOf f ns) vs = none
  | [], [], _, _, _, h => by simp [packs] at h
  | n :: ns, v :: vs, f, w, hl, hp => by
    rw [rowOf, putFrom, Int.toNat_natCast, Int.toNat_natCast]
    by_cases hv : v < 2 ^ n
    · rw [if_pos hv]
      rw [packs, decide_eq_true hv, Bool.true_and] at hp
      exact putFrom_over ns vs (f + n) _ (by simpa using hl) hp
    · rw [if_neg hv]
theorem put_pack {ns vs : List Nat} (hg : good (rowOf 0 ns) = true) (hl : vs.length = ns.length) (hp : packs ns vs = true) : put (rowOf 0 ns) vs = some (pack ns vs) := by
  have hn : ∀ (ns : List Nat) (f : Nat), (rowOf f ns).length = ns.length := by
    intro ns
    induction ns with
    | nil => intro f; rfl
    | cons n ns ih => intro f; rw [rowOf, List.length_cons, List.length_cons, ih]
  rw [put, if_pos ⟨hg, by rw [hl, hn]⟩, putFrom_pack ns vs 0 0 hl hp (by decide)]
  simp
theorem get_row (f n w : Nat) : (⟨f, n⟩ : Fd).get w = w / 2 ^ f % 2 ^ n := by rw [Fd.get, Int.toNat_natCast, Int.toNat_natCast]
/-- five bytes; three halves -/
theorem put_bytes {a b c d e : Nat} (ha : a < 256) (hb : b < 256) (hc : c < 256) (hd : d < 256) (he : e < 256) :
    put [⟨0, 8⟩, ⟨8, 8⟩, ⟨16, 8⟩, ⟨24, 8⟩, ⟨32, 8⟩] [a, b, c, d, e] = some (a + b * 256 + c * 65536 + d * 65536 * 256 + e * 65536 * 65536) := by
  have := put_pack (ns := [8, 8, 8, 8, 8]) (vs := [a, b, c, d, e]) (by decide +kernel) rfl (by simp [packs]; omega)
  rw [show rowOf 0 [8, 8, 8, 8, 8] = [⟨0, 8⟩, ⟨8, 8⟩, ⟨16, 8⟩, ⟨24, 8⟩, ⟨32, 8⟩] from rfl] at this
  rw [this]
  simp only [pack]
  congr 1
  omega
theorem put_halves {a b c : Nat} (ha : a < 65536) (hb : b < 65536) (hc : c < 65536) :
    put [⟨0, 16⟩, ⟨16, 16⟩, ⟨32, 16⟩] [a, b, c] = some (a + b * 65536 + c * 65536 * 65536) := by
  have := put_pack (ns := [16, 16, 16]) (vs := [a, b, c]) (by decide +kernel) rfl (by simp [packs]; omega)
  rw [show rowOf 0 [16, 16, 16] = [⟨0, 16⟩, ⟨16, 16⟩, ⟨32, 16⟩] from rfl] at this
  rw [this]
  simp only [pack]
  congr 1
  omega
theorem gets_bytes (w : Nat) : gets w [⟨0, 8⟩, ⟨8, 8⟩, ⟨16, 8⟩, ⟨24, 8⟩, ⟨32, 8⟩] = [w % 256, w / 256 % 256, w / 65536 % 256, w / 65536 / 256 % 256, w / 65536 / 65536 % 256] := by
  have e : ∀ f n : Nat, (⟨(f : Int), (n : Int)⟩ : Fd).get w = w / 2 ^ f % 2 ^ n := fun f n => get_row f n w
  have h0 := e 0 8
  have h1 := e 8 8
  have h2 := e 16 8
  have h3 := e 24 8
  have h4 := e 32 8
  simp only [gets, List.map_cons, List.map_nil]
  refine List.cons_eq_cons.2 ⟨h0.trans (by simp), List.cons_eq_cons.2 ⟨h1, List.cons_eq_cons.2 ⟨h2, List.cons_eq_cons.2 ⟨h3.trans ?_, List.cons_eq_cons.2 ⟨h4.trans ?_, rfl⟩⟩⟩⟩⟩
  · rw [Nat.div_div_eq_div_mul]
  · rw [Nat.div_div_eq_div_mul]
theorem gets_halves (w : Nat) : gets w [⟨0, 16⟩, ⟨16, 16⟩, ⟨32, 16⟩] = [w % 65536, w / 65536 % 65536, w / 65536 / 65536 % 65536] := by
  have e : ∀ f n : Nat, (⟨(f : Int), (n : Int)⟩ : Fd).get w = w / 2 ^ f % 2 ^ n := fun f n => get_row f n w
  have h0 := e 0 16
  have h1 := e 16 16
  have h2 := e 32 16
  simp only [gets, List.map_cons, List.map_nil]
  refine List.cons_eq_cons.2 ⟨h0.trans (by simp), List.cons_eq_cons.2 ⟨h1, List.cons_eq_cons.2 ⟨h2.trans ?_, rfl⟩⟩⟩
  rw [Nat.div_div_eq_div_mul]
/-- nothing is left outside the fields just where the word is below their end -/
theorem rest_zero {l : List Fd} {w k : Nat} (hg : good l = true) (hm : mask l = 2 ^ k - 1) (hw : w ≤ top) : rest w l = 0 ↔ w < 2 ^ k := by
  have hs := (good_iff l).1 hg
  have hle := hs.mask_le
  rw [rest, if_pos hg, restFrom_eq l w hs hw]
  have h1 := and_or_not hw hle
  rw [hm] at h1 hle ⊢
  constructor
  · intro h
    rw [h, Nat.or_zero] at h1
    have := Nat.and_le_right (n := w) (m := 2 ^ k - 1)
    have := Nat.two_pow_pos k
    omega
  · intro h
    have h2 : w &&& (2 ^ k - 1) = w := by rw [Nat.and_two_pow_sub_one_eq_mod, Nat.mod_eq_of_lt h]
    have h3 := and_not_and (w := w) hle w
    rw [h2] at h3
    rw [← Nat.and_assoc, Nat.and_self] at h3
    exact h3
theorem rest_bytes {w : Nat} (hw : w ≤ top) : rest w [⟨0, 8⟩, ⟨8, 8⟩, ⟨16, 8⟩, ⟨24, 8⟩, ⟨32, 8⟩] = 0 ↔ w < 1099511627776 := rest_zero (k := 40) (by decide +kernel) (by decide +kernel) hw
theorem rest_halves {w : Nat} (hw : w ≤ top) : rest w [⟨0, 16⟩, ⟨16, 16⟩, ⟨32, 16⟩] = 0 ↔ w < 281474976710656 := rest_zero (k := 48) (by decide +kernel) (by decide +kernel) hw
end Go.Proofs.Ytglibcmlophieaa
