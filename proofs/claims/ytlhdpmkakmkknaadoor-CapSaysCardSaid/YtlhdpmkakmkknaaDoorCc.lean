/-
  The walks of package cap's fields and Word. No condition.
-/
import Derived.Test.YtlhdpmkakmkknaaDoorCb
namespace Go.Proofs.YtlhdpmkakmkknaaDoor
open Go.RowKit

/-- where kind, rights, badge and thing stand -/
def four : List Fd := [⟨0, 8⟩, ⟨8, 8⟩, ⟨16, 16⟩, ⟨32, 16⟩]
theorem four_good : good four = true := by kernel_rfl

theorem fields_any (w : World) : Calls Tryd.prog 26 #[] w fun e w' => ∃ A cap, e = .returned (.slice A 4 cap) ∧ FdsAt w' w'.heap.size A four ∧ Below w.heap.size w w' := by
  go_enter Tryd.func26, Tryd.ntmps26
  go_wp2
  go_ret
  exact ⟨_, _, rfl, lit_fds' w four 66 _ rfl, below_alloc _ _⟩

/-- its word -/
def Cp.num (c : Cp) : Nat := c.ty.toNat + 256 * c.ri.toNat + 65536 * c.ba.toNat + 4294967296 * c.th.toNat
def Cp.word (c : Cp) : Option Nat := if c.good = true then some c.num else Option.none
theorem good_iff_all {a b d f : Int} : Cp.good ⟨a, b, d, f⟩ = true ↔ (a = 0 ∧ b = 0 ∧ d = 0 ∧ f = 0) ∨ (1 ≤ a ∧ a ≤ 5 ∧ 0 ≤ b ∧ b < 48 ∧ 0 ≤ d ∧ d ≤ 7 ∧ 0 ≤ f ∧ f ≤ 65535 ∧ (f = 0 ∨ a = 3 ∨ a = 4)) := by
  simp only [Cp.good, Cp.non, Cp.eq, Cp.none, Cp.ofThing, Cp.fits, Cp.badged, inr, Bool.or_eq_true, Bool.and_eq_true, decide_eq_true_eq, beq_iff_eq]
  constructor
  · rintro (⟨h1, h2, h3, h4⟩ | ⟨⟨h1, h2, h3, h4⟩, ⟨h5, h6⟩, ⟨h7, h8⟩, h9⟩)
    · exact .inl ⟨h1, h2, h3, h4⟩
    · exact .inr ⟨h1, h2, h3, h4, h5, h6, h7, h8, h9⟩
  · rintro (⟨h1, h2, h3, h4⟩ | ⟨h1, h2, h3, h4, h5, h6, h7, h8, h9⟩)
    · exact .inl ⟨h1, h2, h3, h4⟩
    · exact .inr ⟨⟨h1, h2, h3, h4⟩, ⟨h5, h6⟩, ⟨h7, h8⟩, h9⟩
/-- one that may be, in Nats -/
theorem good_nat {a b d f : Int} (h : Cp.good ⟨a, b, d, f⟩ = true) : ∃ t n r g : Nat, a = t ∧ b = n ∧ d = r ∧ f = g ∧ t ≤ 5 ∧ n < 48 ∧ r < 8 ∧ g < 65536 := by
  refine ⟨a.toNat, b.toNat, d.toNat, f.toNat, ?_⟩
  rcases good_iff_all.1 h with ⟨rfl, rfl, rfl, rfl⟩ | ⟨h1, h2, h3, h4, h5, h6, h7, h8, _⟩
  · simp
  · omega

theorem put_four {t n r g : Nat} (h1 : t < 256) (h2 : n < 65536) (h3 : r < 256) (h4 : g < 65536) : put four [t, r, g, n] = some (t + 256 * r + 65536 * g + 4294967296 * n) := by
  have e : put four [t, r, g, n] = putFrom 0 four [t, r, g, n] := by unfold put; rw [if_pos ⟨four_good, rfl⟩]
  rw [e]
  show (if t < 2 ^ 8 then if r < 2 ^ 8 then if g < 2 ^ 16 then if n < 2 ^ 16 then some ((((0 ||| t * 2 ^ 0) ||| r * 2 ^ 8) ||| g * 2 ^ 16) ||| n * 2 ^ 32) else _ else _ else _ else _) = _
  rw [if_pos (by omega), if_pos (by omega), if_pos (by omega), if_pos (by omega)]
  congr 1
  have j1 : t ||| r * 2 ^ 8 = 2 ^ 8 * r + t := by rw [Nat.or_comm, Nat.mul_comm]; exact (Nat.two_pow_add_eq_or_of_lt h1 r).symm
  have j2 : (2 ^ 8 * r + t) ||| g * 2 ^ 16 = 2 ^ 16 * g + (2 ^ 8 * r + t) := by rw [Nat.or_comm, Nat.mul_comm g]; exact (Nat.two_pow_add_eq_or_of_lt (by omega) g).symm
  have j3 : (2 ^ 16 * g + (2 ^ 8 * r + t)) ||| n * 2 ^ 32 = 2 ^ 32 * n + (2 ^ 16 * g + (2 ^ 8 * r + t)) := by rw [Nat.or_comm, Nat.mul_comm n]; exact (Nat.two_pow_add_eq_or_of_lt (by omega) n).symm
  rw [Nat.zero_or, Nat.pow_zero, Nat.mul_one, j1, j2, j3]
  omega
theorem four_get (z : Nat) : gotten z four = [z % 256, z / 256 % 256, z / 65536 % 65536, z / 4294967296 % 65536] := by
  unfold gotten
  rw [if_pos four_good]
  show [z / 2 ^ 0 % 2 ^ 8, z / 2 ^ 8 % 2 ^ 8, z / 2 ^ 16 % 2 ^ 16, z / 2 ^ 32 % 2 ^ 16] = _
  simp
theorem four_rest {z : Nat} (hz : z ≤ top) : rest z four = z / 281474976710656 * 281474976710656 := by
  unfold rest
  rw [if_pos four_good, restFrom_eq four z ((good_iff four).1 four_good) hz]
  have e : top - mask four = 65535 * 2 ^ 48 := by kernel_rfl
  rw [e]
  apply Nat.eq_of_testBit_eq
  intro j
  rw [Nat.testBit_and, show (65535 * 2 ^ 48 : Nat) = (2 ^ 16 - 1) * 2 ^ 48 by rfl, Go.Proofs.YtlhdpmkakmkknaaDoor.bits_test, show z / 281474976710656 * 281474976710656 = z / 2 ^ 48 * 2 ^ 48 by rfl, mul_test, Nat.testBit_div_two_pow]
  by_cases h1 : 48 ≤ j
  · by_cases h2 : j < 64
    · simp [h1, h2]
    · have : z.testBit j = false := lt_test (n := 64) (by unfold top at hz; omega) (by omega)
      simp [h1, h2, this]
  · simp [h1]

theorem word_no {a b d f : Int} (h : Cp.good ⟨a, b, d, f⟩ = false) (w : World) : Calls Tryd.prog 9 #[.agg #[.int .i64 a, .int .i64 b, .int .i64 d, .int .i64 f]] w fun e w' => e = .returned (.tuple #[.int .u64 0, .bool false]) ∧ Below w.heap.size w w' := by
  have HG := Lib.hid h
  have hK := Fr.new w a b d f 24
  clear h
  go_enter Tryd.func9, Tryd.ntmps9
  go_wp2_with fail
  generalize w.alloc (.cells #[.int .i64 a, .int .i64 b, .int .i64 d, .int .i64 f] 24) = w1 at hK ⊢
  refine (cgood_at HG.out w1).mono ?_
  rintro e w2 ⟨rfl, hb⟩
  have K2 := Lib.hid (hK.on hb)
  clear hK hb
  go_wp2
  go_ret2
  exact ⟨rfl, K2.out.old⟩

theorem u64_in {z : Int} (h1 : 0 ≤ z) (h2 : z < 18446744073709551616) : IntKind.u64.wrap z = z := by
  unfold IntKind.wrap
  simp only [show IntKind.u64.signed = false from rfl, show IntKind.u64.bits = 64 from rfl, Bool.false_and, Bool.false_eq_true, if_false]
  omega

/-- the fields, made beside a capability -/
theorem fields_fr {W w : World} {g : Nat} {a b d f : Int} (h : Fr W w g a b d f) : Calls Tryd.prog 26 #[] w fun e w' => ∃ A cap, e = .returned (.slice A 4 cap) ∧
    w'.cell? ⟨g, 0, none⟩ = some (.int .i64 a) ∧ w'.cell? ⟨g, 1, none⟩ = some (.int .i64 b) ∧ w'.cell? ⟨g, 2, none⟩ = some (.int .i64 d) ∧ w'.cell? ⟨g, 3, none⟩ = some (.int .i64 f) ∧ Fr W w' g a b d f ∧ FdsAt w' w'.heap.size A four ∧ Below w.heap.size w w' := by
  refine (fields_any w).mono ?_
  rintro e w' ⟨A, cap, rfl, hf, hb⟩
  have k := h.on hb
  exact ⟨A, cap, rfl, k.c0, k.c1, k.c2, k.c3, k, hf, hb⟩

theorem four_len : 4 = four.length := rfl
theorem len4 (t r g n : Nat) : 4 = [t, r, g, n].length := rfl
theorem small4 : 4 ≤ 1000000 := by decide
theorem words4 (w : World) (t r g n : Nat) : WordsAt (w.alloc (.cells #[.int .u64 (t : Int), .int .u64 (r : Int), .int .u64 (g : Int), .int .u64 (n : Int)] 26)) (w.alloc (.cells #[.int .u64 (t : Int), .int .u64 (r : Int), .int .u64 (g : Int), .int .u64 (n : Int)] 26)).heap.size (some ⟨w.heap.size, 0, none⟩) [t, r, g, n] := lit_words' w [t, r, g, n] 26 _ rfl
theorem words4d (w : World) (t r g n : Nat) : WordsAt (w.alloc (.cells #[.int .u64 (t : Int), .int .u64 (r : Int), .int .u64 (g : Int), .int .u64 (n : Int)] 26)).drew (w.alloc (.cells #[.int .u64 (t : Int), .int .u64 (r : Int), .int .u64 (g : Int), .int .u64 (n : Int)] 26)).drew.heap.size (some ⟨w.heap.size, 0, none⟩) [t, r, g, n] := words4 w t r g n
theorem Fr.allocd {W w : World} {g : Nat} {a b d f : Int} (h : Fr W w.drew g a b d f) (o : Obj) : Fr W (w.alloc o).drew g a b d f := h.alloc o
theorem put_fr {r n m cap cap' : Nat} {A A' : Option Addr} {l : List Fd} {v : List Nat} {W w : World} {g : Nat} {a b d f : Int} (h : Fr W w g a b d f) (hn : n = l.length) (hm : m = v.length) (hl : n ≤ 1000000) (hv : m ≤ 1000000)
    (hL : FdsAt w w.heap.size A l) (hV : WordsAt w w.heap.size A' v) (hw : ∀ z ∈ v, z ≤ top) (hr : put l v = some r) :
    Calls Tryd.prog 25 #[.slice A n cap, .slice A' m cap'] w fun e w' => e = .returned (.tuple #[.int .u64 (r : Int), .bool true]) ∧
      w'.cell? ⟨g, 0, none⟩ = some (.int .i64 a) ∧ w'.cell? ⟨g, 1, none⟩ = some (.int .i64 b) ∧ w'.cell? ⟨g, 2, none⟩ = some (.int .i64 d) ∧ w'.cell? ⟨g, 3, none⟩ = some (.int .i64 f) ∧ Fr W w' g a b d f := by
  refine (put_at hn hm hl hv hL hV hw hr).mono ?_
  rintro e w' ⟨rfl, hb⟩
  have k := h.on hb
  exact ⟨rfl, k.c0, k.c1, k.c2, k.c3, k⟩

set_option maxHeartbeats 4000000 in
theorem word_yes {t n r g m : Nat} (h : Cp.good ⟨t, n, r, g⟩ = true) (ht : t ≤ 5) (hn : n < 48) (hr : r < 8) (hg : g < 65536) (hm : t + 256 * r + 65536 * g + 4294967296 * n = m) (w : World) :
    Calls Tryd.prog 9 #[.agg #[.int .i64 (t : Int), .int .i64 (n : Int), .int .i64 (r : Int), .int .i64 (g : Int)]] w fun e w' => e = .returned (.tuple #[.int .u64 (m : Int), .bool true]) ∧ Below w.heap.size w w' := by
  have HG := Lib.hid h
  have hK := Fr.new w t n r g 24
  have HP := Lib.hid (hm ▸ put_four (t := t) (n := n) (r := r) (g := g) (by omega) (by omega) (by omega) hg)
  have HT : Hid (∀ z ∈ [t, r, g, n], z ≤ top) := Lib.hid fun z hz => by
    simp only [List.mem_cons, List.not_mem_nil, or_false] at hz
    unfold top
    omega
  have ut : IntKind.u64.wrap (t : Int) = t := u64_in (by omega) (by omega)
  have un : IntKind.u64.wrap (n : Int) = n := u64_in (by omega) (by omega)
  have ur : IntKind.u64.wrap (r : Int) = r := u64_in (by omega) (by omega)
  have ug : IntKind.u64.wrap (g : Int) = g := u64_in (by omega) (by omega)
  clear h ht hn hr hg hm
  go_enter Tryd.func9, Tryd.ntmps9
  go_wp2_with fail
  generalize w.alloc (.cells #[.int .i64 (t : Int), .int .i64 (n : Int), .int .i64 (r : Int), .int .i64 (g : Int)] 24) = w1 at hK ⊢
  refine (cgood_at HG.out w1).mono ?_
  rintro e w2 ⟨rfl, hb⟩
  have hK2 := (hK.on hb).drew
  have c0 := hK2.c0
  have c1 := hK2.c1
  have c2 := hK2.c2
  have c3 := hK2.c3
  clear hK hb
  go_wp2_with fail
  go_region_held3 (fun w' => w'.cell? ⟨w.heap.size, 0, none⟩ = some (.int .i64 (t : Int)) ∧ w'.cell? ⟨w.heap.size, 1, none⟩ = some (.int .i64 (n : Int)) ∧ w'.cell? ⟨w.heap.size, 2, none⟩ = some (.int .i64 (r : Int)) ∧ w'.cell? ⟨w.heap.size, 3, none⟩ = some (.int .i64 (g : Int)) ∧ Fr w w' w.heap.size t n r g)
    (first | exact ⟨by with_reducible assumption, by with_reducible assumption, by with_reducible assumption, by with_reducible assumption, by with_reducible assumption⟩ | exact ⟨(Fr.alloc (by with_reducible assumption) _).c0, (Fr.alloc (by with_reducible assumption) _).c1, (Fr.alloc (by with_reducible assumption) _).c2, (Fr.alloc (by with_reducible assumption) _).c3, Fr.alloc (by with_reducible assumption) _⟩ | exact ⟨(Fr.allocd (by with_reducible assumption) _).c0, (Fr.allocd (by with_reducible assumption) _).c1, (Fr.allocd (by with_reducible assumption) _).c2, (Fr.allocd (by with_reducible assumption) _).c3, Fr.allocd (by with_reducible assumption) _⟩ | fail)
    (first
      | (go_at_call 26; ((with_reducible refine (fields_fr (by first | with_reducible assumption | exact Fr.alloc (by with_reducible assumption) _ | exact Fr.allocd (by with_reducible assumption) _ | fail)).mono ?_); rintro e w' ⟨A, cap, rfl, y0, y1, y2, y3, y4, y5, y6⟩))
      | (go_at_call 25; ((with_reducible refine (put_fr (l := four) (v := [t, r, g, n]) (by first | with_reducible assumption | exact Fr.alloc (by with_reducible assumption) _ | exact Fr.allocd (by with_reducible assumption) _ | fail) four_len (len4 t r g n) small4 small4 (by first | with_reducible assumption | exact FdsAt.grow (by with_reducible assumption) (below_alloc _ _) | fail) (by first | exact words4 _ t r g n | exact (words4 _ t r g n).grow (by with_reducible assumption) | exact (words4d _ t r g n).grow (by with_reducible assumption) | fail) HT.out HP.out).mono ?_); rintro e w' ⟨rfl, z0, z1, z2, z3, z4⟩)))
  all_goals go_wp2
  all_goals go_ret2
  all_goals exact ⟨rfl, z4.old⟩
theorem word_any (c : Cp) (w : World) : Calls Tryd.prog 9 #[c.val] w fun e w' => e = .returned (putV c.word) ∧ Below w.heap.size w w' := by
  obtain ⟨a, b, d, f⟩ := c
  rcases h : Cp.good ⟨a, b, d, f⟩ with _ | _
  · have e : Cp.word ⟨a, b, d, f⟩ = none := by rw [Cp.word, h]; rfl
    rw [e]
    exact word_no h w
  · obtain ⟨t, n, r, g, rfl, rfl, rfl, rfl, h1, h2, h3, h4⟩ := good_nat h
    have e : Cp.word ⟨t, n, r, g⟩ = some (t + 256 * r + 65536 * g + 4294967296 * n) := by rw [Cp.word, h]; rfl
    rw [e]
    exact word_yes h h1 h2 h3 h4 rfl w
end Go.Proofs.YtlhdpmkakmkknaaDoor
