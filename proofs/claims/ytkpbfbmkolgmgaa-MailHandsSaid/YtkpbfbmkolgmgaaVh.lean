/-
  Sent and taken out again; what is handed on: plain facts for layer 18's laws. No condition.
-/
import Derived.Test.YtkpbfbmkolgmgaaVa
namespace Go.Proofs.Ytkpbfbmkolgmgaa
open Go.RowKit
set_option linter.unusedSimpArgs false
set_option linter.unusedVariables false

theorem cgood_a {c : Cl} (h : cgood c = true) : pgood c.a = true := by
  obtain ⟨k, -, -, -, -, h, -⟩ := cgood_some h
  exact h
theorem cgood_recv {l : List Int} (h : pgood l = true) : cgood ⟨8, l, [], 0, 0, 0⟩ = true := by
  show (pgood l && fits (forms 8) ⟨8, l, [], 0, 0, 0⟩) = true
  rw [h]
  rfl
theorem mmay_at {k : Cp} {o : Int} (h3 : k.ty = 3) : mmay k o = if mbit k o = true then 0 else 6 := if_pos h3
/-- a call of one who may: what is told of it -/
theorem mdo_at {s : St} {t : Int} {c : Cl} {k : Cp} {f i : Nat} (hc : cgood c = true) (ho : c.op = 7 ∨ c.op = 8) (hf : fcap s t c.a = ((f : Int), k, 0)) (h3 : k.ty = 3) (hi : k.th = (i : Int)) :
    mdo s t c = if mbit k c.op = true then (if c.op = 7 then msend s t c k else mrecv s t c i) else (none, ⟨6, 0, 0⟩) := by
  have hn : k.th.toNat = i := by omega
  rw [mdo, if_pos ⟨ho, hc⟩, hf]
  dsimp only
  rw [if_pos rfl, mmay_at h3, hn]
  by_cases hb : mbit k c.op = true
  · rw [if_pos hb, if_pos hb, if_pos rfl]
  · rw [if_neg hb, if_neg hb, if_neg (by decide)]
theorem mail_round {s s' : St} {t : Int} {la : List Int} {w : Nat} {q : Rep} (h : mdo s t ⟨7, la, [], 0, 0, w⟩ = (some s', q)) :
    q = ⟨0, 0, 0⟩ ∧ mdo s' t ⟨7, la, [], 0, 0, w⟩ = (none, ⟨13, 0, 0⟩) ∧ (mdo s' t ⟨8, la, [], 0, 0, 0⟩ = (none, ⟨6, 0, 0⟩) ∨ ∃ ba, mdo s' t ⟨8, la, [], 0, 0, 0⟩ = (some s, ⟨0, w, ba⟩) ∧ mdo s t ⟨8, la, [], 0, 0, 0⟩ = (none, ⟨14, 0, 0⟩)) := by
  obtain ⟨hc, -, k, f, i, B, hb, ⟨-, fr, h1, hfu, rfl, rfl⟩ | ⟨h8, -⟩⟩ := mdo_some h
  · obtain rfl : fr = 0 := (mfrom_ok B.gst h1).2.2.2 rfl
    have M : Tpt s i (mbox w k.ba 0) := B.fullt (Int.le_refl _) fun e => absurd e (by decide)
    have G := B.gst
    have hf : fcap (tputS s i (mbox w k.ba 0)) t la = ((f : Int), k, 0) := (M.cap G t la).trans B.cap
    have hn : k.th.toNat = i := by have := B.th; omega
    have hat := M.at
    have he : thAt s.th i = Tng.of 3 := (mail_thing (G.tgood B.lt) B.thty).2.2.2.2.2.2 hfu
    have h8 := cgood_recv (cgood_a hc)
    refine ⟨rfl, ?_, ?_⟩
    · rw [mdo_at hc (.inl rfl) hf B.ty B.th, if_pos hb, if_pos rfl, msend]
      have e : mfrom (tputS s i (mbox w k.ba 0)) t ⟨7, la, [], 0, 0, w⟩ k = (0, 0) := if_pos rfl
      rw [e, if_pos rfl, hn]
      dsimp only
      rw [hat]
      exact if_pos rfl
    · by_cases hr : mbit k 8 = true
      · refine .inr ⟨k.ba, ?_, ?_⟩
        · rw [mdo_at h8 (.inr rfl) hf B.ty B.th, if_pos hr, if_neg (show ¬ (8 : Int) = 7 by decide), mrecv, hat]
          have e : mhand (tputS s i (mbox w k.ba 0)) t ⟨8, la, [], 0, 0, 0⟩ (mbox w k.ba 0).frm = (none, 0) := if_pos (.inl rfl)
          rw [e]
          refine (if_pos rfl).trans ((if_pos rfl).trans ?_)
          have e2 := tput_back (x := mbox w k.ba 0) B.lt
          rw [he] at e2
          show (some (tputS (tputS s i (mbox w k.ba 0)) i (Tng.of 3)), _) = _
          rw [e2]
          rfl
        · rw [mdo_at h8 (.inr rfl) B.cap B.ty B.th, if_pos hr, if_neg (show ¬ (8 : Int) = 7 by decide), mrecv, he]
          exact if_neg (by decide)
      · refine .inl ?_
        rw [mdo_at h8 (.inr rfl) hf B.ty B.th, if_neg hr]
  · exact absurd (show (7 : Int) = 8 from h8) (by decide)
/-- the slots behind what is taken out -/
theorem mail_slots {s s' : St} {t : Int} {c : Cl} {q : Rep} (h : mdo s t c = (some s', q)) (h8 : c.op = 8) : ∃ F T : Nat, F < s.sl.length ∧ T < s.sl.length ∧ (slAt s'.sl T = slAt s.sl T ∨ slAt s'.sl T = ⟨(slAt s.sl F).c, F⟩) ∧ ∀ k, k ≠ T → slAt s'.sl k = slAt s.sl k := by
  obtain ⟨hc, -, k, f, i, B, hb, ⟨h7, -⟩ | ⟨-, -, r, h1, rfl, -⟩⟩ := mdo_some h
  · rw [h7] at h8
    exact absurd h8 (by decide)
  · rcases mhand_ok h1 with ⟨rfl, -⟩ | ⟨F, T, -, G, P, rfl, -⟩
    · exact ⟨0, 0, B.gst.posm.1, B.gst.posm.1, .inl rfl, fun _ _ => rfl⟩
    · refine ⟨F, T, P.src, P.dst, .inr ?_, fun k hk => ?_⟩
      · show slAt (gputS s F T (slAt s.sl F).c).sl T = _
        rw [P.slIs, if_pos rfl]
      · show slAt (gputS s F T (slAt s.sl F).c).sl k = _
        rw [P.slIs, if_neg hk]
end Go.Proofs.Ytkpbfbmkolgmgaa
