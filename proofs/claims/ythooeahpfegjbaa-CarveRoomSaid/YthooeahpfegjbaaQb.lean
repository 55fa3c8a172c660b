/-
  The walk of package right's Text: the letters of what rights count as. No condition.
-/
import Derived.Test.YthooeahpfegjbaaQa
namespace Go.Proofs.Ythooeahpfegjbaa
open Go.RowKit

/-- of r, w, g those that rights x have, in this order; - of none -/
def ltrs : Nat → ByteArray
  | 0 => ⟨#[45]⟩
  | 1 => ⟨#[114]⟩
  | 2 => ⟨#[119]⟩
  | 3 => ⟨#[114, 119]⟩
  | 4 => ⟨#[103]⟩
  | 5 => ⟨#[114, 103]⟩
  | 6 => ⟨#[119, 103]⟩
  | _ => ⟨#[114, 119, 103]⟩
def rwg : ByteArray := ⟨#[114, 119, 103]⟩
def lt1 : Nat → ByteArray
  | 0 => ⟨#[114]⟩
  | 1 => ⟨#[119]⟩
  | _ => ⟨#[103]⟩
/-- the letters of the first i bits, without the - -/
def part : Nat → Nat → ByteArray
  | _, 0 => ⟨#[]⟩
  | x, i + 1 => if x / 2 ^ i % 2 = 1 then part x i ++ lt1 i else part x i
theorem part_ltrs : ∀ x < 8, x ≠ 0 → (part x 3).data = (ltrs x).data := by decide +kernel

theorem bit0 : ∀ x < 8, (bits .and .i64 ((x : Nat) : Int) 1 != 0) = decide (x % 2 = 1) := by decide +kernel
theorem bit1 : ∀ x < 8, (bits .and .i64 (((x : Nat) : Int) / 2) 1 != 0) = decide (x / 2 % 2 = 1) := by decide +kernel
theorem bit2 : ∀ x < 8, (bits .and .i64 (((x : Nat) : Int) / 4) 1 != 0) = decide (x / 4 % 2 = 1) := by decide +kernel
theorem part_size : ∀ x < 8, ∀ i < 4, (part x i).size ≤ 3 := by decide +kernel

def TextRel (W : World) (x : Nat) (q : Value) (wr : World) : Prop := ∃ i : Nat, i ≤ 3 ∧ wr = W.iter rwg i ∧ q = .string (part x i)

theorem next_rwg (w : World) (i : Nat) (u : Nat) (h : rwg.data[i]? = some u.toUInt8) (hu : u < 128) (ty : TypeId) : (Instr.next (.pointer (some ⟨w.heap.size, 0, none⟩)) true ty).run Try.prog (w.iter rwg i) = .ok (.tuple #[.bool true, .int .i64 i, .int .i32 u]) (w.iter rwg (i + 1)) := by
  obtain ⟨hi, he⟩ := Array.getElem?_eq_some_iff.1 h
  have h2 : (rwg[i]'hi).toNat = u := by
    show (rwg.data[i]'hi).toNat = u
    rw [he]
    simp
    omega
  have := run_next_ascii (P := Try.prog) w rwg i ty hi (by rw [h2]; exact hu)
  rw [h2] at this
  exact this

/-- two texts are alike just if the rights are -/
theorem ltrs_eq : ∀ x < 8, ∀ y < 8, ((ltrs x).toList == (ltrs y).toList) = (x == y) := by decide +kernel
theorem ltrs_dash : ∀ x < 8, ((ltrs x).toList == (⟨#[45]⟩ : ByteArray).toList) = (x == 0) := by decide +kernel
end Go.Proofs.Ythooeahpfegjbaa
