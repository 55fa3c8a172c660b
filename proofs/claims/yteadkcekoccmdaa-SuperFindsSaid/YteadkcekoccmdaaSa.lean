/-
  A superblock as plain data, the eight words that it is written in, what is read of words; the walk of package super's closing. Condition: the list lies in memory.
-/
import Derived.Test.YteadkcekoccmdaaGe
import Derived.Test.YteadkcekoccmdaaWh
import Derived.Test.YteadkcekoccmdaaWm
namespace Go.Proofs.Yteadkcekoccmdaa
open Go.RowKit

/-- a superblock: how many there are, the boot's number -/
structure Sp where
  g : Gd
  b : Int
instance : Inhabited Sp := ⟨⟨⟨0, 0, 0⟩, 0⟩⟩
def zsp : Sp := ⟨⟨0, 0, 0⟩, 0⟩
/-- the closing word -/
def close (l : List Int) : Int := (spin l).2 * 4294967296 + (spin l).1
def Sp.front (s : Sp) : List Int := [8243106252149764145, s.g.t, s.g.s, s.g.k, s.b, 0, 0]
def Sp.full (s : Sp) : List Int := [8243106252149764145, s.g.t, s.g.s, s.g.k, s.b, 0, 0, close s.front]
def Sp.put (s : Sp) : List Int := if s.g.ok = true then s.full else []
theorem Sp.put_yes {s : Sp} (h : s.g.ok = true) : s.put = s.full := by unfold Sp.put; rw [if_pos h]
theorem Sp.put_no {s : Sp} (h : s.g.ok = false) : s.put = [] := by unfold Sp.put; rw [if_neg (by rw [h]; decide)]
theorem Sp.full_length (s : Sp) : s.full.length = 8 := rfl
/-- what eight words say, whether they are just so written, what is read of a list -/
def Sp.of (l : List Int) : Sp := ⟨⟨wrap64 (l.getD 1 0), wrap64 (l.getD 2 0), wrap64 (l.getD 3 0)⟩, l.getD 4 0⟩
def got (l : List Int) : Bool := decide (l.length = 8 ∧ l = (Sp.of l).put)
def get (l : List Int) : Sp := if got l = true then Sp.of l else zsp
/-- read of so many rows -/
def fits (r : Int) (l : List Int) : Bool := got l && decide ((get l).g.rows = r)
def fit (r : Int) (l : List Int) : Sp := if fits r l = true then get l else zsp
/-- the first and the last eight words; what is found -/
def heads (l : List Int) : List Int := l.take 8
def tails (l : List Int) : List Int := l.drop (l.length - 8)
def Ok (l : List Int) : Bool := decide (8 ≤ l.length ∧ l.length % 8 = 0)
def first (l : List Int) : Bool := Ok l && fits ((l.length / 8 : Nat) : Int) (heads l)
def back (l : List Int) : Bool := Ok l && fits ((l.length / 8 : Nat) : Int) (tails l)
def find (l : List Int) : Sp := if first l = true then get (heads l) else if back l = true then get (tails l) else zsp

theorem close_range (l : List Int) : 0 ≤ close l ∧ close l < 18446744073709551616 := by
  obtain ⟨⟨a, b⟩, c, d⟩ := spin_range l
  unfold close
  omega

theorem closing_any (A : Option Addr) (cap : Nat) (zs : List Int) (w : World) (hl : zs.length ≤ maxLen) (hL : Lies w w.heap.size A zs) (hW : Wds zs) :
    Calls Try.prog 19 #[.slice A zs.length cap] w fun e w' => e = .returned (.int .u64 (close zs)) ∧ Below w.heap.size w w' := by
  have HS := Lib.hid (spin_any A cap zs w hl hL hW)
  obtain ⟨⟨p0, p1⟩, q0, q1⟩ := spin_range zs
  unfold close
  clear hl hL hW
  generalize (spin zs).1 = p at *
  generalize (spin zs).2 = q at *
  generalize zs.length = n at *
  have WP := Lib.hid (inW_mk (p := p) (by omega) (by omega))
  have WQ := Lib.hid (inW_mk (p := q) (by omega) (by omega))
  go_enter Try.func19, Try.ntmps19
  go_wp2_with (first
    | (go_at_call 29; (refine HS.out.mono ?_); rintro e w' ⟨rfl, hb⟩; have HB := Lib.hid hb; clear hb)
    | (go_at_call 28; ((with_reducible refine (word_yes p q WP WQ _).mono ?_); rintro e w2 ⟨rfl, rfl⟩)))
  go_ret
  exact ⟨rfl, HB.out⟩
end Go.Proofs.Yteadkcekoccmdaa
