/-
  path's Text with its text named. Condition: the steps lie in memory.
-/
import Derived.Test.YtfcifheejjppfaaDoorHg
namespace Go.Proofs.YtfcifheejjppfaaDoor
open Go.RowKit

theorem text_is {A : Option Addr} {n cap : Nat} {l : List Int} {s : ByteArray} {w : World} (hn : n = l.length) (hL : IntsAt w w.heap.size A l) (hs : (⟨(ptext l).toArray⟩ : ByteArray) = s) :
    Calls Tryd.prog 24 #[.agg #[.slice A n cap]] w fun e w' => e = .returned (.string s) ∧ Below w.heap.size w w' := by
  subst hn
  exact hs ▸ ptext_any A cap l w hL
end Go.Proofs.YtfcifheejjppfaaDoor
