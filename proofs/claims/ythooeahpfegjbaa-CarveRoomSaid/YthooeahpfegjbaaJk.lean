/-
  The walks of the reference's Owner, Free, Gap, Holders and Inside. Condition: the state lies in memory.
-/
import Derived.Test.YthooeahpfegjbaaJi
namespace Go.Proofs.Ythooeahpfegjbaa
open Go.RowKit

theorem Gst.ok {s : St} (h : Gst s) : s.g.ok = true := by
  have := h.k1
  rw [St.k1, Bool.and_eq_true] at this
  exact this.1
theorem Gst.lens {s : St} (h : Gst s) : (s.sl.length : Int) = s.g.s ∧ (s.th.length : Int) = s.g.k := by
  have := h.k1
  rw [St.k1, Bool.and_eq_true, Bool.and_eq_true, decide_eq_true_eq, decide_eq_true_eq] at this
  exact this.2
theorem Gst.few {s : St} (h : Gst s) : s.sl.length ≤ 96 ∧ s.th.length ≤ 48 := by
  have h1 := Gd.ok_iff.1 h.ok
  have h2 := h.lens
  omega
theorem Gst.thok {s : St} (h : Gst s) : ThOk s.th := fun i hi => by
  have := h.k2 i hi
  rw [St.k2, Bool.and_eq_true] at this
  exact this.1
theorem Gst.ndin {s : St} (h : Gst s) : NdIn s := fun j hj h2 => by
  have h4 := h.k4 j hj
  have hne : ¬ (slAt s.sl j).c.ty = 0 := by omega
  rw [St.k4, if_neg hne, Bool.and_eq_true, Bool.and_eq_true, St.thing4, Bool.and_eq_true, decide_eq_true_eq] at h4
  exact ⟨((good_iff_all.1 h4.1).resolve_left (fun q => hne q.1)).2.2.1, h4.2.1.1⟩
end Go.Proofs.Ythooeahpfegjbaa
