/-
  How an argument that is a line reads: its eighteen cells. No condition.
-/
import Derived.Test.YtigdhgikdknlmaaRj
namespace Go.Proofs.Ytigdhgikdknlmaa
open Go.ChangeShapes Go.WideShapes Go.ChangeAt Go.RowKit Go.Deep

theorem cells25 : Try.prog.cellsOf 25 = 8 := by kernel_rfl
theorem cells27 : Try.prog.cellsOf 27 = 18 := by kernel_rfl
theorem cells24 : Try.prog.cellsOf 24 = 1 := by kernel_rfl

/-- cells that read as eight words are eight words -/
theorem words_of {H : Type} {enc : TypeId × Value → H} {W : World} {base : Nat} {sp : Nat → Bool} {hd : Bool} {n : Nat} {cs : List Value} {x : DataW H × List MemPlace}
    (h : DataW.trod enc Try.prog W base sp hd n 25 cs = some x) : ∃ zs : List Int, zs.length = 8 ∧ cs = wcells zs := by
  obtain ⟨xs, m, _, _, hlen, hxs, hf⟩ := DataW.trod_array Try.underlying25 h
  rw [cells25] at hlen
  have key : ∀ i, i < 8 → ∃ z : Int, cs[i]? = some (.int .u64 z) := fun i hi => by
    have h1 := hf i hi
    have hc : cs[i]? = some (cs[i]'(by omega)) := List.getElem?_eq_getElem (by omega)
    rw [cells24, Nat.mul_one, List.drop_eq_getElem_cons (by omega), List.take_succ_cons, List.take_zero, List.getElem?_eq_getElem (by omega)] at h1
    obtain ⟨z, e, _⟩ := DataW.trod_int Try.underlying24 h1
    injection e with e
    exact ⟨z, by rw [hc, e]⟩
  obtain ⟨f, hfz⟩ := choose_lt (α := Int) key
  refine ⟨(List.range 8).map f, by simp, ?_⟩
  apply List.ext_getElem?
  intro i
  unfold wcells
  rcases Nat.lt_or_ge i 8 with hi | hi
  · rw [hfz i hi, List.getElem?_map, List.getElem?_map, List.getElem?_range hi]; rfl
  · rw [List.getElem?_eq_none (by omega), List.getElem?_eq_none (by simp; omega)]

theorem bool_of {H : Type} {enc : TypeId × Value → H} {W : World} {base : Nat} {sp : Nat → Bool} {hd : Bool} {n : Nat} {c : Value} {x : DataW H × List MemPlace}
    (h : DataW.trod enc Try.prog W base sp hd n 4 [c] = some x) : ∃ b : Bool, c = .bool b := by
  obtain ⟨b, e, _⟩ := DataW.trod_bool Try.underlying4 h
  injection e with e
  exact ⟨b, e⟩

theorem open_line {H : Type} {enc : TypeId × Value → H} {W : World} {base : Nat} {v : Value} {d : DataW H} {p : List MemPlace}
    (hv : Value.okWide Try.prog W .any base 27 v) (h : DataW.Trod enc Try.prog W 0 (fun _ => true) true 27 v d p) :
    ∃ r : Ln, r.ok ∧ v = .agg r.cells.toArray := by
  obtain ⟨cs, rfl, hsz⟩ := okWide_struct Try.underlying27 hv
  rw [cells27] at hsz
  obtain ⟨fuel, hf⟩ := h
  obtain ⟨xs, n, _, _, hlen, hxs, hg⟩ := DataW.trod_struct Try.underlying27 hf
  obtain ⟨l⟩ := cs
  replace hsz : l.length = 18 := by simpa using hsz
  match xs, hxs with
  | [y0, y1, y2, y3], _ =>
    have k0 : ∀ k, Try.prog.cellsOf 25 = k → DataW.trod enc Try.prog W 0 (fun _ => true) true n 25 ((l.drop 0).take k) = some y0 := by rintro _ rfl; exact hg 0 _ rfl
    have k1 : ∀ k, Try.prog.cellsOf 25 = k → DataW.trod enc Try.prog W 0 (fun _ => true) true n 25 ((l.drop 8).take k) = some y1 := by rintro _ rfl; exact hg 1 _ rfl
    have k2 : ∀ k, Try.prog.cellsOf 4 = k → DataW.trod enc Try.prog W 0 (fun _ => true) true n 4 ((l.drop 16).take k) = some y2 := by rintro _ rfl; exact hg 2 _ rfl
    have k3 : ∀ k, Try.prog.cellsOf 4 = k → DataW.trod enc Try.prog W 0 (fun _ => true) true n 4 ((l.drop 17).take k) = some y3 := by rintro _ rfl; exact hg 3 _ rfl
    obtain ⟨L, hL, e0⟩ := words_of (k0 8 cells25)
    obtain ⟨N, hN, e1⟩ := words_of (k1 8 cells25)
    have g2 := k2 1 (by kernel_rfl)
    have g3 := k3 1 (by kernel_rfl)
    rw [List.drop_eq_getElem_cons (show 16 < l.length by omega), List.take_succ_cons, List.take_zero] at g2
    rw [List.drop_eq_getElem_cons (show 17 < l.length by omega), List.take_succ_cons, List.take_zero] at g3
    obtain ⟨ou, e2⟩ := bool_of g2
    obtain ⟨se, e3⟩ := bool_of g3
    rw [List.drop_zero] at e0
    refine ⟨⟨L, N, ou, se⟩, ⟨hL, hN⟩, ?_⟩
    congr 1
    congr 1
    show l = wcells L ++ (wcells N ++ [.bool ou, .bool se])
    have p0 : l = l.take 8 ++ ((l.drop 8).take 8 ++ (l.drop 16)) := by
      rw [show l.drop 16 = (l.drop 8).drop 8 by rw [List.drop_drop], List.take_append_drop, List.take_append_drop]
    have p1 : l.drop 16 = [.bool ou, .bool se] := by
      rw [List.drop_eq_getElem_cons (by omega), List.drop_eq_getElem_cons (by omega), e2, e3, List.drop_eq_nil_of_le (by omega)]
    rw [← e0, ← e1, ← p1]
    exact p0
end Go.Proofs.Ytigdhgikdknlmaa
