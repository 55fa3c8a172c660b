/-
  The walk of package right's Text: the letters of what rights count as. No condition.
-/
import Derived.Test.YtlhdpmkakmkknaaDoorQa
namespace Go.Proofs.YtlhdpmkakmkknaaDoor
open Go.RowKit

/-- of r, w, g those that rights x have, in this order; - of none -/
def ltrs : Nat → ByteArray
  | 0 => ⟨#[45]⟩
  | 1 => ⟨#[114]⟩
  | 2 => ⟨#[119]⟩
  | 3 => ⟨#[114, 119]⟩
  | 4 => ⟨#[103]⟩
  | 5 => ⟨#[114, 103]⟩
  | 6 => ⟨#[119, 103]⟩
  | _ => ⟨#[114, 119, 103]⟩
def rwg : ByteArray := ⟨#[114, 119, 103]⟩
def lt1 : Nat → ByteArray
  | 0 => ⟨#[114]⟩
  | 1 => ⟨#[119]⟩
  | _ => ⟨#[103]⟩
/-- the letters of the first i bits, without the - -/
def part : Nat → Nat → ByteArray
  | _, 0 => ⟨#[]⟩
  | x, i + 1 => if x / 2 ^ i % 2 = 1 then part x i ++ lt1 i else part x i
theorem part_ltrs : ∀ x < 8, x ≠ 0 → (part x 3).data = (ltrs x).data := by decide +kernel

theorem bit0 : ∀ x < 8, (bits .and .i64 ((x : Nat) : Int) 1 != 0) = decide (x % 2 = 1) := by decide +kernel
theorem bit1 : ∀ x < 8, (bits .and .i64 (((x : Nat) : Int) / 2) 1 != 0) = decide (x / 2 % 2 = 1) := by decide +kernel
theorem bit2 : ∀ x < 8, (bits .and .i64 (((x : Nat) : Int) / 4) 1 != 0) = decide (x / 4 % 2 = 1) := by decide +kernel
theorem part_size : ∀ x < 8, ∀ i < 4, (part x i).size ≤ 3 := by decide +kernel

def TextRel (W : World) (x : Nat) (q : Value) (wr : World) : Prop := ∃ i : Nat, i ≤ 3 ∧ wr = W.iter rwg i ∧ q = .string (part x i)

theorem next_rwg (w : World) (i : Nat) (u : Nat) (h : rwg.data[i]? = some u.toUInt8) (hu : u < 128) (ty : TypeId) : (Instr.next (.pointer (some ⟨w.heap.size, 0, none⟩)) true ty).run Tryd.prog (w.iter rwg i) = .ok (.tuple #[.bool true, .int .i64 i, .int .i32 u]) (w.iter rwg (i + 1)) := by
  obtain ⟨hi, he⟩ := Array.getElem?_eq_some_iff.1 h
  have h2 : (rwg[i]'hi).toNat = u := by
    show (rwg.data[i]'hi).toNat = u
    rw [he]
    simp
    omega
  have := run_next_ascii (P := Tryd.prog) w rwg i ty hi (by rw [h2]; exact hu)
  rw [h2] at this
  exact this

theorem text_none (a : Int) (w : World) (h : held a = 0) : Calls Tryd.prog 32 #[.int .i64 a] w fun e w' => e = .returned (.string ⟨#[45]⟩) ∧ Below w.heap.size w w' := by
  have HX := Lib.hid h
  clear h
  go_enter Tryd.func32, Tryd.ntmps32
  go_wp2_with (go_at_call 45; (with_reducible refine (counted_any _ _).mono ?_); rintro e w' ⟨rfl, rfl⟩; rw [HX.out])
  go_ret
  exact ⟨rfl, Below.refl _ _⟩

set_option maxHeartbeats 1000000 in
theorem text_some (a : Int) (x : Nat) (w : World) (hx : held a = x) (h0 : x ≠ 0) : Calls Tryd.prog 32 #[.int .i64 a] w fun e w' => e = .returned (.string (ltrs x)) ∧ Below w.heap.size w w' := by
  have h8 : x < 8 := hx ▸ held_lt a
  have HX := Lib.hid hx
  have H8 := Lib.hid h8
  have H0 := Lib.hid h0
  have hne : ((x : Int) == 0) = false := by simp; omega
  clear hx h8 h0
  go_enter Tryd.func32, Tryd.ntmps32
  go_wp2_with (go_at_call 45; (with_reducible refine (counted_any _ _).mono ?_); rintro e w' ⟨rfl, rfl⟩; rw [HX.out])
  go_loopw [3] (fun q w' => TextRel w x q w') (fun _ w' => 3 - w'.iterPos w.heap.size)
  case atStart => exact ⟨0, by omega, rfl, rfl⟩
  case round =>
    obtain ⟨i, hi, rfl, rfl⟩ := hrel
    match i, hi with
    | 0, _ =>
      have hnx := next_rwg w 0 114 rfl (by decide)
      go_wp2
      · go_roundw
        case rel => exact ⟨1, by decide, rfl, by have := bit0 x H8.out; simp_all [part]; rfl⟩
        case measure => simp
      · go_roundw
        case rel => exact ⟨1, by decide, rfl, by have := bit0 x H8.out; simp_all [part]⟩
        case measure => simp
    | 1, _ =>
      have hnx := next_rwg w 1 119 rfl (by decide)
      have hsz : ¬ 9223372036854775807 < (part x 1).size + (Utf8.encode 119).size := by have h1 := part_size x H8.out 1 (by decide); have h2 : (Utf8.encode 119).size = 1 := rfl; omega
      go_wp2
      · go_roundw
        case rel => exact ⟨2, by decide, rfl, by have := bit1 x H8.out; simp_all [part]; rfl⟩
        case measure => simp
      · go_roundw
        case rel => exact ⟨2, by decide, rfl, by have := bit1 x H8.out; simp_all [part]⟩
        case measure => simp
    | 2, _ =>
      have hnx := next_rwg w 2 103 rfl (by decide)
      have hsz : ¬ 9223372036854775807 < (part x 2).size + (Utf8.encode 103).size := by have h1 := part_size x H8.out 2 (by decide); have h2 : (Utf8.encode 103).size = 1 := rfl; omega
      go_wp2
      · go_roundw
        case rel => exact ⟨3, by decide, rfl, by have := bit2 x H8.out; simp_all [part]; rfl⟩
        case measure => simp
      · go_roundw
        case rel => exact ⟨3, by decide, rfl, by have := bit2 x H8.out; simp_all [part]⟩
        case measure => simp
    | 3, _ =>
      have hnx : ∀ ty, (Instr.next (.pointer (some ⟨w.heap.size, 0, none⟩)) true ty).run Tryd.prog (w.iter rwg 3) = _ := fun ty => run_next_end w rwg 3 ty (by decide)
      go_wp2
      go_ret
      rw [show part x 3 = ltrs x from congrArg ByteArray.mk (part_ltrs x H8.out H0.out)]
      exact ⟨rfl, (Below.refl _ _).alloc (Nat.le_refl _) _⟩

theorem text_any (a : Int) (w : World) : Calls Tryd.prog 32 #[.int .i64 a] w fun e w' => e = .returned (.string (ltrs (held a))) ∧ Below w.heap.size w w' := by
  by_cases h : held a = 0
  · rw [h]
    exact text_none a w h
  · exact text_some a _ w rfl h
/-- two texts are alike just if the rights are -/
theorem ltrs_eq : ∀ x < 8, ∀ y < 8, ((ltrs x).toList == (ltrs y).toList) = (x == y) := by decide +kernel
theorem ltrs_dash : ∀ x < 8, ((ltrs x).toList == (⟨#[45]⟩ : ByteArray).toList) = (x == 0) := by decide +kernel
end Go.Proofs.YtlhdpmkakmkknaaDoor
