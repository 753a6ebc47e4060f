/- The least row in which tables differ: TrailingZeros64, rowApart, l03Least. -/
import Derived.Test.YtebicgfoaefabaaDoorUs
import Derived.Test.YtebicgfoaefabaaDoorG2
import Derived.Shelf.Spec.TrailingZeros
namespace Go.Proofs.YtebicgfoaefabaaDoor
open Go.ChangeShapes Go.WideShapes Go.ChangeAt Go.RowKit Go.Joins Go.Deep
set_option linter.unusedVariables false
set_option linter.unusedSimpArgs false

/-- the table of TrailingZeros64 in its variable -/
def TabB (g : Nat) (w : World) : Prop := (∀ j, j < 64 → w.cell? ⟨g, j, none⟩ = some (.int .u8 (Lib.deBruijn64tab.getD j 0))) ∧ g < w.heap.size
theorem TabB.below {g : Nat} {w w' : World} (h : TabB g w) (b : Below w.heap.size w w') : TabB g w' :=
  ⟨fun j hj => (b.cell (p := ⟨g, j, none⟩) h.2).trans (h.1 j hj), Nat.lt_of_lt_of_le h.2 b.size⟩
theorem TabB.kept {g lo hi : Nat} {w w' : World} (h : TabB g w) (k : KeptOut lo hi w w') (h0 : g < lo) : TabB g w' :=
  ⟨fun j hj => (k.cell h.2 (.inl h0)).trans (h.1 j hj), Nat.lt_of_lt_of_le h.2 k.size⟩
set_option maxHeartbeats 1000000 in
theorem tz_core (x k idx : Nat) (w : World) (hx0 : ((x : Int) == 0) = false)
    (key : IntKind.u64.wrap (Go.bits BinOp.and IntKind.u64 (x : Int) (IntKind.u64.wrap (-(x : Int))) * 285870213051353865) / 288230376151711744 = (idx : Int))
    (hi : idx < 64) (hk : k < 64) (hcell : w.cell? ⟨1, idx, none⟩ = some (.int .u8 k)) :
    Calls Tryd.prog 37 #[.int .u64 x] w fun e w' => e = .returned (.int .i64 k) ∧ w = w' := by
  go_enter Tryd.func37, Tryd.ntmps37
  go_wp2_with (simp only [key])
  go_ret
  exact ⟨rfl, rfl⟩
theorem tz64_any (x : Nat) (hx : x < 18446744073709551616) (h0 : x ≠ 0) (w : World) (hT : TabB 1 w) :
    Calls Tryd.prog 37 #[.int .u64 x] w fun e w' => e = .returned (.int .i64 (Lib.ctz 64 x)) ∧ w = w' := by
  obtain ⟨hlow, hk⟩ := Lib.lowest_bit 64 x h0 hx
  obtain ⟨hi, htab⟩ := Lib.deBruijn64_at _ hk
  have hcell := hT.1 _ hi
  rw [htab] at hcell
  exact tz_core x _ _ w (by simp; omega) (tz64_key x _ hx h0 hlow) hi hk hcell

/-- all bits in which two lists of tables differ -/
def apartA : List Int → List Int → Int → Int
  | x :: l, y :: m, a => apartA l m (Go.bits .or .u64 a (Go.bits .xor .u64 x y))
  | _, _, a => a
theorem apartA_wf : ∀ (l m : List Int) (a : Int), (Lit.int .u64 a).wf = true → (Lit.int .u64 (apartA l m a)).wf = true
  | x :: l, y :: m, a, h => apartA_wf l m _ (wf_bits _ _ _ _)
  | [], _, a, h => by unfold apartA; exact h
  | _ :: _, [], a, h => by unfold apartA; exact h
theorem u64_nat {a : Int} (h : (Lit.int .u64 a).wf = true) : ∃ x : Nat, a = (x : Int) ∧ x < 18446744073709551616 := by
  have := bounds_u64 h
  exact ⟨a.toNat, by omega, by omega⟩
/-- the least row in which they do, and a code -/
def leastQ (x : Nat) : Int × Int := if x = 0 then (0, 6) else ((Lib.ctz 64 x : Nat), 0)
theorem pair_LQ {a b c d : Int} (h : (a, b) = (c, d)) : a = c ∧ b = d := by injection h with h1 h2; exact ⟨h1, h2⟩
theorem ctz_parts {x : Nat} (h0 : x ≠ 0) (hx : x < 18446744073709551616) : ∃ m, x = 2 ^ Lib.ctz 64 x * (2 * m + 1) ∧ Lib.ctz 64 x < 64 := by
  obtain ⟨m, hm, hk⟩ := Lib.ctzFrom_spec 64 x (by omega) hx
  have e : Lib.ctz 64 x = Lib.ctzFrom 64 x := by simp [Lib.ctz, h0]
  rw [e]
  exact ⟨m, hm, hk⟩
theorem bit_below {x t m k : Nat} (h : x = 2 ^ t * (2 * m + 1)) (hk : k < t) : x / 2 ^ k % 2 = 0 := by
  have e : 2 ^ t = 2 ^ k * (2 * 2 ^ (t - k - 1)) := by
    rw [← Nat.pow_succ', ← Nat.pow_add]
    congr 1
    omega
  rw [h, e, Nat.mul_assoc, Nat.mul_div_cancel_left _ (Nat.pow_pos (by decide)), Nat.mul_assoc]
  exact Nat.mul_mod_right _ _
theorem bit_at {x t m : Nat} (h : x = 2 ^ t * (2 * m + 1)) : x / 2 ^ t % 2 = 1 := by
  rw [h, Nat.mul_div_cancel_left _ (Nat.pow_pos (by decide))]
  omega
theorem and_one_nat {x k : Nat} (hx : x < 18446744073709551616) : Go.bits .and .u64 ((x : Int) / 2 ^ k) 1 = ((x / 2 ^ k % 2 : Nat) : Int) := by
  have e : (x : Int) / 2 ^ k = ((x / 2 ^ k : Nat) : Int) := by push_cast; rfl
  have h := bits_and_u64_nat (x / 2 ^ k) 1 (Nat.lt_of_le_of_lt (Nat.div_le_self _ _) hx) (by decide)
  rw [Nat.and_one_is_mod] at h
  rw [e]
  exact h
set_option maxRecDepth 100000 in
set_option maxHeartbeats 4000000 in
theorem rowApart_any (b1 o1 b2 o2 n c1 c2 : Nat) (l1 l2 : List Int) (w : World) (hn1 : l1.length = n) (hn2 : l2.length = n) (h1 : UssAt w b1 o1 l1) (h2 : UssAt w b2 o2 l2) (hb1 : b1 < w.heap.size) (hb2 : b2 < w.heap.size) (hmax : n ≤ 1048576) (hc1 : n ≤ c1) (hc2 : n ≤ c2) (hT : TabB 1 w)
    (x : Nat) (hx : apartA l1 l2 0 = (x : Int)) (hx64 : x < 18446744073709551616) (E C : Int) (hQ : leastQ x = (E, C)) :
    Calls Tryd.prog 20 #[.slice (some ⟨b1, o1, none⟩) n c1, .slice (some ⟨b2, o2, none⟩) n c2] w fun e w' => e = .returned (.tuple #[.int .i64 E, .int .i64 C]) ∧ Below w.heap.size w w' := by
  have Hn1 := Lib.hid hn1
  have Hn2 := Lib.hid hn2
  have HT := Lib.hid hT
  obtain ⟨t, ht⟩ : ∃ t, Lib.ctz 64 x = t := ⟨_, rfl⟩
  have HTT := Lib.hid ht
  have HQ : Hid ((if x = 0 then ((0 : Int), (6 : Int)) else (((t : Nat) : Int), (0 : Int))) = (E, C)) := Lib.hid (by rw [← ht]; exact hQ)
  have HX : Hid (apartA (l1.drop 0) (l2.drop 0) 0 = (x : Int)) := Lib.hid hx
  clear hn1 hn2 hT hQ hx ht
  go_enter Tryd.func20, Tryd.ntmps20
  go_wp2
  go_loopw [6, 11] (fun a i wr => ∃ (k : Nat) (s : Int), k ≤ n ∧ i = .int .i64 k ∧ a = .int .u64 s ∧ Hid (apartA (l1.drop k) (l2.drop k) s = (x : Int)) ∧ w = wr) (fun _ i _ => n - (intOf i).toNat)
  case atStart => exact ⟨0, 0, by omega, rfl, rfl, HX, rfl⟩
  case round =>
    clear HX
    obtain ⟨k, s, hk, rfl, rfl, hf, rfl⟩ := hrel
    by_cases hlt : k < n
    · have hlk1 : k < l1.length := by rw [Hn1.out]; exact hlt
      have hlk2 : k < l2.length := by rw [Hn2.out]; exact hlt
      have d1 := h1 k hlk1
      have d2 := h2 k hlk2
      have hq := hf.out
      rw [List.drop_eq_getElem_cons hlk1, List.drop_eq_getElem_cons hlk2] at hq
      unfold apartA at hq
      generalize l1[k] = u at d1 hq
      generalize l2[k] = v at d2 hq
      obtain ⟨z, hz⟩ : ∃ z, Go.bits .xor .u64 u v = z := ⟨_, rfl⟩
      rw [hz] at hq
      obtain ⟨y, hy⟩ : ∃ y, Go.bits .or .u64 s z = y := ⟨_, rfl⟩
      rw [hy] at hq
      have HF := Lib.hid hq
      clear hf hq h1 h2
      go_wp2
      exact ⟨⟨k + 1, y, by omega, by go_num, by try (first | rfl | simp [hz, hy]), HF, trivial⟩, by simp [intOf]; omega⟩
    · obtain rfl : k = n := by omega
      obtain rfl : s = (x : Int) := by rw [← hf.out, List.drop_of_length_le (by rw [Hn1.out]; exact Nat.le_refl _)]; rfl
      clear hf h1 h2
      by_cases h0 : x = 0
      · obtain ⟨rfl, rfl⟩ := pair_LQ (show ((0 : Int), (6 : Int)) = (E, C) by rw [← HQ.out, if_pos h0])
        subst h0
        clear HQ
        go_wp2
        exact bodyPost_ret (v := .tuple #[.int .i64 0, .int .i64 6]) (by simp [results, Tryd.results20, go_sem]) rfl ⟨rfl, by repeat (first | with_reducible exact Below.refl _ _ | (with_reducible refine kSet ?_ ?hB _; case hB => (simp; try omega)) | with_reducible refine kAlloc ?_ _ | with_reducible refine Below.drew ?_ | with_reducible refine kDrewN ?_ _ | with_reducible refine kTrans ?_ (by assumption))⟩
      · obtain ⟨rfl, rfl⟩ := pair_LQ (show (((t : Nat) : Int), (0 : Int)) = (E, C) by rw [← HQ.out, if_neg h0])
        have h0' : ((x : Int) == 0) = false := by simpa using h0
        have HC := Lib.hid (tz64_any x hx64 h0 w HT.out)
        rw [HTT.out] at HC
        clear HQ HTT
        go_wp2_with fail
        refine HC.out.mono ?_
        rintro e w1 ⟨rfl, rfl⟩
        go_wp2
        exact bodyPost_ret (v := .tuple #[.int .i64 t, .int .i64 0]) (by simp [results, Tryd.results20, go_sem]) rfl ⟨rfl, by repeat (first | with_reducible exact Below.refl _ _ | (with_reducible refine kSet ?_ ?hB _; case hB => (simp; try omega)) | with_reducible refine kAlloc ?_ _ | with_reducible refine Below.drew ?_ | with_reducible refine kDrewN ?_ _ | with_reducible refine kTrans ?_ (by assumption))⟩
end Go.Proofs.YtebicgfoaefabaaDoor
