/- NeedsOf: what a table needs: the program's mask and the model's rows. -/
import Derived.Test.YtcnmcgajkmcllaaG21
import Derived.Laws.Bits64
import Derived.Laws.Bits64b
namespace Go.Proofs.Ytcnmcgajkmcllaa
open Go.ChangeShapes Go.WideShapes Go.ChangeAt Go.RowKit Go.Joins Go.Deep
set_option linter.unusedVariables false
set_option linter.unusedSimpArgs false
/-- the row with the digit i turned -/
def flipN (j i : Nat) : Nat := (Go.bits .xor .i64 (j : Int) (wrap64 (2 ^ i))).toNat
theorem flipN_small : ∀ (r : Fin 64) (i : Fin 6) (n : Fin 7), r.val < 2 ^ n.val → i.val < n.val → flipN r i < 2 ^ n.val ∧ Go.bits .xor .i64 (r.val : Int) (wrap64 (2 ^ i.val)) = flipN r i ∧ flipN (flipN r i) i = r ∧ (r.val.testBit i = false → flipN r i = r + 2 ^ i.val) ∧ (flipN r i).testBit i = !(r.val.testBit i) := by decide +kernel
theorem flipN_at {n i r : Nat} (hn : n ≤ 6) (hi : i < n) (hr : r < 2 ^ n) : flipN r i < 2 ^ n ∧ Go.bits .xor .i64 (r : Int) (wrap64 (2 ^ i)) = flipN r i ∧ flipN (flipN r i) i = r ∧ (r.testBit i = false → flipN r i = r + 2 ^ i) ∧ (flipN r i).testBit i = !(r.testBit i) := by
  have hp : 2 ^ n ≤ 64 := by
    have : n = 0 ∨ n = 1 ∨ n = 2 ∨ n = 3 ∨ n = 4 ∨ n = 5 ∨ n = 6 := by omega
    rcases this with rfl | rfl | rfl | rfl | rfl | rfl | rfl <;> decide
  exact flipN_small ⟨r, by omega⟩ ⟨i, by omega⟩ ⟨n, by omega⟩ hr hi
/-- the rows without an input -/
def maskN (n i : Nat) : Int := Go.bits .andNot .u64 (fullT n) (inT i (2 ^ n))
theorem maskN_small : ∀ (n : Fin 7) (i : Fin 6) (r : Fin 64), i.val < n.val → (maskN n i).toNat.testBit r = (decide (r.val < 2 ^ n.val) && !(r.val.testBit i)) := by decide +kernel
/-- an input changes a table -/
def chB (n : Nat) (t : Int) (i : Nat) : Bool := Go.bits .and .u64 (Go.bits .xor .u64 t (t / 2 ^ (2 ^ i))) (maskN n i) != 0
/-- two rows of a table differ -/
def dfB (t : Int) (r z : Nat) : Bool := Go.bits .and .u64 (t / 2 ^ r) 1 != Go.bits .and .u64 (t / 2 ^ z) 1
theorem dfB_eq (T r z : Nat) (hT : T < 18446744073709551616) : dfB (T : Int) r z = (T.testBit r != T.testBit z) := by
  have h1 : ∀ r, Go.bits .and .u64 ((T : Int) / 2 ^ r) 1 = ((T / 2 ^ r % 2 : Nat) : Int) := by
    intro r
    have e : ((T : Int) / 2 ^ r) = ((T / 2 ^ r : Nat) : Int) := by push_cast; rfl
    rw [e]
    have h := bits_and_u64_nat (T / 2 ^ r) 1 (Nat.lt_of_le_of_lt (Nat.div_le_self _ _) hT) (by decide)
    rw [show ((1 : Nat) : Int) = 1 from rfl] at h
    rw [h, Nat.and_one_is_mod]
  unfold dfB
  rw [h1, h1, Nat.testBit_eq_decide_div_mod_eq, Nat.testBit_eq_decide_div_mod_eq]
  have a := Nat.mod_two_eq_zero_or_one (T / 2 ^ r)
  have b := Nat.mod_two_eq_zero_or_one (T / 2 ^ z)
  rcases a with a | a <;> rcases b with b | b <;> simp [a, b]
theorem chB_iff (T n i : Nat) (hT : T < 18446744073709551616) (hn : n ≤ 6) (hi : i < n) : chB n (T : Int) i = true ↔ ∃ r, r < 2 ^ n ∧ dfB (T : Int) r (flipN r i) = true := by
  have hp : 2 ^ n ≤ 64 := by
    have : n = 0 ∨ n = 1 ∨ n = 2 ∨ n = 3 ∨ n = 4 ∨ n = 5 ∨ n = 6 := by omega
    rcases this with rfl | rfl | rfl | rfl | rfl | rfl | rfl <;> decide
  have hm0 := bounds_u64 (wf_bits .andNot .u64 (fullT n) (inT i (2 ^ n)))
  obtain ⟨W, hW⟩ : ∃ W : Nat, maskN n i = (W : Int) := ⟨(maskN n i).toNat, by unfold maskN; omega⟩
  have hWl : W < 18446744073709551616 := by unfold maskN at hW; omega
  have hWb : ∀ r, r < 64 → W.testBit r = (decide (r < 2 ^ n) && !(r.testBit i)) := by
    intro r hr
    have h := maskN_small ⟨n, by omega⟩ ⟨i, by omega⟩ ⟨r, hr⟩ hi
    simp only at h
    rw [hW, Int.toNat_natCast] at h
    exact h
  have hX : Go.bits .xor .u64 (T : Int) ((T : Int) / 2 ^ (2 ^ i)) = ((T ^^^ T / 2 ^ (2 ^ i) : Nat) : Int) := by
    have h := xorShift_u64 T (2 ^ (2 ^ i)) hT
    rw [← h]
    push_cast
    rfl
  have hXl : T ^^^ T / 2 ^ (2 ^ i) < 18446744073709551616 := Nat.xor_lt_two_pow (n := 64) hT (Nat.lt_of_le_of_lt (Nat.div_le_self _ _) hT)
  have hc : chB n (T : Int) i = decide ((T ^^^ T / 2 ^ (2 ^ i)) &&& W ≠ 0) := by
    unfold chB
    rw [hX, hW, bits_and_u64_nat _ _ hXl hWl]
    by_cases h : (T ^^^ T / 2 ^ (2 ^ i)) &&& W = 0
    · simp [h]
    · have h2 : (((T ^^^ T / 2 ^ (2 ^ i)) &&& W : Nat) : Int) ≠ 0 := by omega
      simp only [bne_iff_ne, ne_eq, h2, not_false_iff, h, decide_true, Bool.not_eq_true]
  have hXb : ∀ r, (T ^^^ T / 2 ^ (2 ^ i)).testBit r = (T.testBit r != T.testBit (r + 2 ^ i)) := by
    intro r
    rw [Nat.testBit_xor, Nat.testBit_div_two_pow]
  have hfl := fun r (hr : r < 2 ^ n) => flipN_at hn hi hr
  rw [hc, decide_eq_true_eq]
  constructor
  · intro h
    obtain ⟨r, hr⟩ := Nat.exists_testBit_of_ne_zero h
    rw [Nat.testBit_and, Bool.and_eq_true, hXb] at hr
    have hr64 : r < 64 := by
      by_cases h : r < 64
      · exact h
      · have := Nat.testBit_lt_two_pow (x := W) (i := r) (Nat.lt_of_lt_of_le (show W < 2 ^ 64 from hWl) (Nat.pow_le_pow_right (n := 2) (by decide) (by omega : 64 ≤ r)))
        rw [this] at hr
        exact absurd hr.2 (by decide)
    have hw := hr.2
    rw [hWb r hr64, Bool.and_eq_true, decide_eq_true_eq] at hw
    obtain ⟨f1, f2, f3, f4, f5⟩ := hfl r hw.1
    refine ⟨r, hw.1, ?_⟩
    rw [dfB_eq _ _ _ hT, f4 (by simpa using hw.2)]
    exact hr.1
  · rintro ⟨r, hr, hd⟩
    rw [dfB_eq _ _ _ hT] at hd
    have key : ∀ r, r < 2 ^ n → r.testBit i = false → (T.testBit r != T.testBit (r + 2 ^ i)) = true → (T ^^^ T / 2 ^ (2 ^ i)) &&& W ≠ 0 := by
      intro r hr hb hd h0
      have h1 : ((T ^^^ T / 2 ^ (2 ^ i)) &&& W).testBit r = true := by
        rw [Nat.testBit_and, hXb, hd, hWb r (by omega), hb]
        simp [hr]
      rw [h0, Nat.zero_testBit] at h1
      exact absurd h1 (by decide)
    obtain ⟨f1, f2, f3, f4, f5⟩ := hfl r hr
    cases hb : r.testBit i with
    | false => exact key r hr hb (by rw [← f4 hb]; exact hd)
    | true =>
      rw [hb] at f5
      obtain ⟨g1, g2, g3, g4, g5⟩ := hfl _ f1
      refine key _ f1 (by simpa using f5) ?_
      rw [← g4 (by simpa using f5), f3, bne_comm]
      exact hd
/-- what the program has of an input behind k tables -/
def anB (L : List Int) (n s : Nat) : Nat → Bool
  | 0 => false
  | k + 1 => anB L n s k || chB n (L.getD k 0) s
/-- what the model has of an input: in a row, behind k tables; behind r rows -/
def eeB (x : Bool) (L : List Int) (i r : Nat) : Nat → Bool
  | 0 => x
  | k + 1 => eeB x L i r k || dfB (L.getD k 0) r (flipN r i)
def ddB (L : List Int) (i : Nat) : Nat → Bool
  | 0 => false
  | r + 1 => eeB (ddB L i r) L i r L.length
theorem anB_iff (L : List Int) (n s : Nat) : ∀ k, anB L n s k = true ↔ ∃ j, j < k ∧ chB n (L.getD j 0) s = true
  | 0 => by simp [anB]
  | k + 1 => by
    rw [anB, Bool.or_eq_true, anB_iff L n s k]
    constructor
    · rintro (⟨j, h1, h2⟩ | h)
      · exact ⟨j, by omega, h2⟩
      · exact ⟨k, by omega, h⟩
    · rintro ⟨j, h1, h2⟩
      by_cases e : j = k
      · subst e; exact .inr h2
      · exact .inl ⟨j, by omega, h2⟩
theorem eeB_iff (x : Bool) (L : List Int) (i r : Nat) : ∀ k, eeB x L i r k = true ↔ x = true ∨ ∃ j, j < k ∧ dfB (L.getD j 0) r (flipN r i) = true
  | 0 => by simp [eeB]
  | k + 1 => by
    rw [eeB, Bool.or_eq_true, eeB_iff x L i r k]
    constructor
    · rintro ((h | ⟨j, h1, h2⟩) | h)
      · exact .inl h
      · exact .inr ⟨j, by omega, h2⟩
      · exact .inr ⟨k, by omega, h⟩
    · rintro (h | ⟨j, h1, h2⟩)
      · exact .inl (.inl h)
      · by_cases e : j = k
        · subst e; exact .inr h2
        · exact .inl (.inr ⟨j, by omega, h2⟩)
theorem ddB_iff (L : List Int) (i : Nat) : ∀ r, ddB L i r = true ↔ ∃ q, q < r ∧ ∃ j, j < L.length ∧ dfB (L.getD j 0) q (flipN q i) = true
  | 0 => by simp [ddB]
  | r + 1 => by
    rw [ddB, eeB_iff, ddB_iff L i r]
    constructor
    · rintro (⟨q, h1, h2⟩ | h)
      · exact ⟨q, by omega, h2⟩
      · exact ⟨r, by omega, h⟩
    · rintro ⟨q, h1, h2⟩
      by_cases e : q = r
      · subst e; exact .inr h2
      · exact .inl ⟨q, by omega, h2⟩
theorem need_same {L : List Int} (hw : UssWf L) {n i : Nat} (hn : n ≤ 6) (hi : i < n) : ddB L i (2 ^ n) = anB L n i L.length := by
  rw [Bool.eq_iff_iff, ddB_iff, anB_iff]
  have hk : ∀ j, j < L.length → (chB n (L.getD j 0) i = true ↔ ∃ r, r < 2 ^ n ∧ dfB (L.getD j 0) r (flipN r i) = true) := by
    intro j hj
    rw [List.getD_eq_getElem?_getD, List.getElem?_eq_getElem hj]
    have hb := bounds_u64 (hw _ (List.getElem_mem hj))
    obtain ⟨T, hT⟩ : ∃ T : Nat, L[j] = (T : Int) := ⟨L[j].toNat, by omega⟩
    simp only [Option.getD_some]
    rw [hT]
    exact chB_iff T n i (by omega) hn hi
  constructor
  · rintro ⟨q, h1, j, h2, h3⟩
    exact ⟨j, h2, (hk j h2).2 ⟨q, h1, h3⟩⟩
  · rintro ⟨j, h2, h3⟩
    obtain ⟨q, h1, h4⟩ := (hk j h2).1 h3
    exact ⟨q, h1, j, h2, h4⟩
end Go.Proofs.Ytcnmcgajkmcllaa
