/- NetworkOf: the mathematics. -/
import Derived.Test.YtdnjamlibnmpfaaAdm
import Derived.Laws.Bits64
import Derived.Laws.Bits64b
namespace Go.Proofs.Ytdnjamlibnmpfaa
open Go.ChangeShapes Go.WideShapes Go.ChangeAt Go.RowKit Go.Joins Go.Deep
set_option linter.unusedVariables false
set_option linter.unusedSimpArgs false

/-- all rows of so many inputs, 0 inputs too -/
def fullF (n : Nat) : Int := if n = 0 then 1 else fullT n
theorem pow7 {n : Nat} (hn : n ≤ 6) : n = 0 ∨ n = 1 ∨ n = 2 ∨ n = 3 ∨ n = 4 ∨ n = 5 ∨ n = 6 := by omega
def andF (t : Int) (n : Nat) : Int := Go.bits .and .u64 t (fullF n)
def shF (t : Int) (n : Nat) : Int := t / 2 ^ (2 ^ n)
theorem fullF_nat {n : Nat} (hn : n ≤ 6) : fullF n = ((2 ^ (2 ^ n) - 1 : Nat) : Int) := by
  rcases pow7 hn with rfl | rfl | rfl | rfl | rfl | rfl | rfl <;> rfl
theorem andF_le {t : Int} {n : Nat} (hn : n ≤ 6) (h0 : 0 ≤ t) (h1 : t ≤ 18446744073709551615) : 0 ≤ andF t n ∧ andF t n ≤ fullF n := by
  obtain ⟨T, rfl⟩ : ∃ T : Nat, t = T := ⟨t.toNat, by omega⟩
  unfold andF
  rw [fullF_nat hn]
  have hp : 2 ^ (2 ^ n) - 1 < 18446744073709551616 := by rcases pow7 hn with rfl | rfl | rfl | rfl | rfl | rfl | rfl <;> decide
  rw [bits_and_u64_nat T _ (by omega) hp]
  have := @Nat.and_le_right T (2 ^ (2 ^ n) - 1)
  exact ⟨by omega, by exact_mod_cast this⟩
theorem shF_le {t : Int} {n : Nat} (hn : n ≤ 5) (h0 : 0 ≤ t) (h1 : t ≤ fullF (n + 1)) : 0 ≤ shF t n ∧ shF t n ≤ fullF n := by
  unfold shF
  rw [fullF_nat (by omega)] at h1 ⊢
  have : n = 0 ∨ n = 1 ∨ n = 2 ∨ n = 3 ∨ n = 4 ∨ n = 5 := by omega
  rcases this with rfl | rfl | rfl | rfl | rfl | rfl <;> (simp at h1 ⊢; omega)
theorem andNot_zero {t : Int} {n : Nat} (hn : n ≤ 6) (h0 : 0 ≤ t) (h1 : t ≤ 18446744073709551615) (h : Go.bits .andNot .u64 t (fullF n) = 0) : t ≤ fullF n := by
  obtain ⟨a, rfl⟩ : ∃ T : Nat, t = T := ⟨t.toNat, by omega⟩
  rw [fullF_nat hn] at h ⊢
  have hk : 2 ^ n ≤ 64 := by rcases pow7 hn with rfl | rfl | rfl | rfl | rfl | rfl | rfl <;> decide
  obtain ⟨k, hkk⟩ : ∃ k, 2 ^ n = k := ⟨_, rfl⟩
  rw [hkk] at h hk ⊢
  have hp : 1 ≤ 2 ^ k := Nat.one_le_two_pow
  have hp2 : 2 ^ k ≤ 2 ^ 64 := Nat.pow_le_pow_right (by decide) hk
  have ha : a < 2 ^ 64 := by omega
  have e1 : (BitVec.ofInt 64 (a : Int)).toNat = a := by
    rw [BitVec.ofInt_natCast, BitVec.toNat_ofNat]; exact Nat.mod_eq_of_lt ha
  have e2 : (BitVec.ofInt 64 ((2 ^ k - 1 : Nat) : Int)).toNat = 2 ^ k - 1 := by
    rw [BitVec.ofInt_natCast, BitVec.toNat_ofNat]; exact Nat.mod_eq_of_lt (by omega)
  have h3 : IntKind.u64.wrap ((BitVec.ofInt 64 (a : Int) &&& ~~~ BitVec.ofInt 64 ((2 ^ k - 1 : Nat) : Int)).toNat : Int) = 0 := h
  rw [BitVec.toNat_and, BitVec.toNat_not, e1, e2, IntKind.wrap_u64] at h3
  have hx : a &&& (2 ^ 64 - 1 - (2 ^ k - 1)) < 2 ^ 64 := Nat.and_lt_two_pow _ (by omega)
  have h4 : a &&& (2 ^ 64 - 1 - (2 ^ k - 1)) = 0 := by omega
  have h5 : 2 ^ 64 - 1 - (2 ^ k - 1) = (2 ^ (64 - k) - 1) <<< k := by
    rw [Nat.shiftLeft_eq, Nat.sub_mul, ← Nat.pow_add, Nat.sub_add_cancel hk]; omega
  rw [h5] at h4
  have h6 : (a &&& (2 ^ (64 - k) - 1) <<< k) >>> k = 0 := by rw [h4]; simp
  rw [Nat.shiftRight_and_distrib, Nat.shiftLeft_shiftRight, Nat.and_two_pow_sub_one_eq_mod, Nat.shiftRight_eq_div_pow] at h6
  have h7 : a / 2 ^ k < 2 ^ (64 - k) := by
    rw [Nat.div_lt_iff_lt_mul (by omega), ← Nat.pow_add, Nat.sub_add_cancel hk]; exact ha
  rw [Nat.mod_eq_of_lt h7] at h6
  have h8 : a < 2 ^ k := by
    rcases Nat.div_eq_zero_iff.1 h6 with h | h <;> omega
  omega
def nv (a : List Nd) : List Nd := a ++ [⟨1, 0, 0⟩, ⟨3, (a.length : Int), (a.length : Int)⟩]
def on (a : List Nd) : List Nd := a ++ [⟨1, 0, 0⟩]
def inN (a : List Nd) (n : Nat) : List Nd := a ++ [⟨0, (n : Int), 0⟩]
def unN (a : List Nd) (x y : Int) : List Nd := a ++ [⟨3, x, y⟩]
def orN (a : List Nd) (x y : Int) : List Nd := a ++ [⟨2, x, y⟩]
/-- behind both halves: the input, the gates -/
def mixA (n : Nat) (a : List Nd) : List Nd := inN a n
def mixB (n : Nat) (a : List Nd) (p : Int) : List Nd := unN (on (mixA n a)) ((mixA n a).length : Int) p
def mixC (n : Nat) (a : List Nd) (p : Int) : List Nd := unN (mixB n a p) (a.length : Int) ((on (mixA n a)).length : Int)
def mixD (n : Nat) (a : List Nd) (p q : Int) : List Nd := unN (mixC n a p) q (a.length : Int)
def mixE (n : Nat) (a : List Nd) (p q : Int) : List Nd := orN (mixD n a p q) ((mixB n a p).length : Int) ((mixC n a p).length : Int)
theorem mix_lens (n : Nat) (a : List Nd) (p q : Int) : (mixA n a).length = a.length + 1 ∧ (on (mixA n a)).length = a.length + 2 ∧ (mixB n a p).length = a.length + 3 ∧ (mixC n a p).length = a.length + 4 ∧ (mixD n a p q).length = a.length + 5 ∧ (mixE n a p q).length = a.length + 6 := by
  simp [mixA, mixB, mixC, mixD, mixE, inN, on, unN, orN]
/-- the nodes of a table, and the last one -/
def tabT : Nat → Int → List Nd → List Nd × Int
  | 0, t, a => if t = 0 then (nv a, (a.length : Int) + 1) else (on a, (a.length : Int))
  | n + 1, t, a => if t = 0 then (nv a, (a.length : Int) + 1) else if t = fullF (n + 1) then (on a, (a.length : Int)) else
    if andF t n = shF t n then tabT n (andF t n) a else
    let P := tabT n (shF t n) a
    let Q := tabT n (andF t n) P.1
    (mixE n Q.1 P.2 Q.2, ((mixD n Q.1 P.2 Q.2).length : Int))
theorem tabT_len : ∀ (n : Nat) (t : Int) (a : List Nd), a.length ≤ (tabT n t a).1.length ∧ (tabT n t a).1.length + 6 ≤ a.length + 8 * 2 ^ n
  | 0, t, a => by
    rw [tabT]
    split <;> simp [nv, on]
  | n + 1, t, a => by
    have h1 := tabT_len n (andF t n) a
    have h2 := tabT_len n (shF t n) a
    have h3 := tabT_len n (andF t n) (tabT n (shF t n) a).1
    have hp : 1 ≤ 2 ^ n := Nat.one_le_two_pow
    have hpp : 2 ^ (n + 1) = 2 * 2 ^ n := by rw [Nat.pow_succ]; omega
    rw [tabT, hpp]
    split
    · simp [nv]; omega
    · split
      · simp [on]; omega
      · split
        · omega
        · have hm := mix_lens n (tabT n (andF t n) (tabT n (shF t n) a).1).1 (tabT n (shF t n) a).2 (tabT n (andF t n) (tabT n (shF t n) a).1).2
          simp only
          omega
/-- all nodes stand behind what they take -/
def okA (ni : Int) (a : List Nd) : Prop := ∀ i (h : i < a.length), nodeOk ni i a[i] = true
theorem okA_snoc {ni : Int} {a : List Nd} {x : Nd} (h : okA ni a) (hx : nodeOk ni a.length x = true) : okA ni (a ++ [x]) := by
  intro i hi
  rw [List.getElem_append]
  split
  · exact h i (by assumption)
  · rename_i hl
    simp only [List.length_append, List.length_singleton] at hi
    obtain rfl : i = a.length := by omega
    simpa using hx
theorem nk_in {ni : Int} {k n : Nat} (h : (n : Int) < ni) : nodeOk ni k ⟨0, (n : Int), 0⟩ = true := by unfold nodeOk; simp; omega
theorem nk_one {ni : Int} {k : Nat} : nodeOk ni k ⟨1, 0, 0⟩ = true := by unfold nodeOk; simp
theorem nk_un {ni : Int} {k : Nat} {x y : Int} (h : (0 ≤ x ∧ x < k) ∧ 0 ≤ y ∧ y < k) : nodeOk ni k ⟨3, x, y⟩ = true := by unfold nodeOk; simp; omega
theorem nk_or {ni : Int} {k : Nat} {x y : Int} (h : (0 ≤ x ∧ x < k) ∧ 0 ≤ y ∧ y < k) : nodeOk ni k ⟨2, x, y⟩ = true := by unfold nodeOk; simp; omega
theorem okA_nv {ni : Int} {a : List Nd} (h : okA ni a) : okA ni (nv a) := by
  unfold nv
  rw [show a ++ [(⟨1, 0, 0⟩ : Nd), ⟨3, (a.length : Int), (a.length : Int)⟩] = (a ++ [⟨1, 0, 0⟩]) ++ [⟨3, (a.length : Int), (a.length : Int)⟩] by simp]
  exact okA_snoc (okA_snoc h nk_one) (nk_un (by simp; omega))
theorem tabT_ok {ni : Int} : ∀ (n : Nat) (t : Int) (a : List Nd), (n : Int) ≤ ni → okA ni a → okA ni (tabT n t a).1 ∧ 0 ≤ (tabT n t a).2 ∧ (tabT n t a).2 < (tabT n t a).1.length
  | 0, t, a, hn, h => by
    rw [tabT]
    split
    · exact ⟨okA_nv h, by omega, by simp [nv]⟩
    · exact ⟨okA_snoc h nk_one, by omega, by simp [on]; omega⟩
  | n + 1, t, a, hn, h => by
    have h1 := tabT_ok n (andF t n) a (by omega) h
    obtain ⟨p1, p2, p3⟩ := tabT_ok n (shF t n) a (by omega) h
    obtain ⟨q1, q2, q3⟩ := tabT_ok n (andF t n) (tabT n (shF t n) a).1 (by omega) p1
    have hl := (tabT_len n (andF t n) (tabT n (shF t n) a).1).1
    rw [tabT]
    split
    · exact ⟨okA_nv h, by omega, by simp [nv]⟩
    · split
      · exact ⟨okA_snoc h nk_one, by omega, by simp [on]; omega⟩
      · split
        · exact h1
        · have hm := mix_lens n (tabT n (andF t n) (tabT n (shF t n) a).1).1 (tabT n (shF t n) a).2 (tabT n (andF t n) (tabT n (shF t n) a).1).2
          simp only
          refine ⟨?_, by omega, by omega⟩
          unfold mixE mixD mixC mixB at hm ⊢
          have k1 : okA ni (mixA n (tabT n (andF t n) (tabT n (shF t n) a).1).1) := okA_snoc q1 (nk_in (by omega))
          have k2 : okA ni (on (mixA n (tabT n (andF t n) (tabT n (shF t n) a).1).1)) := okA_snoc k1 nk_one
          exact okA_snoc (okA_snoc (okA_snoc (okA_snoc k2 (nk_un (by omega))) (nk_un (by omega))) (nk_un (by omega))) (nk_or (by omega))
theorem nodesOk_of2 {ni : Int} : ∀ (l : List Nd) (k : Nat), (∀ i (h : i < l.length), nodeOk ni (k + i) l[i] = true) → nodesOk ni l k = true
  | [], k, h => rfl
  | x :: l, k, h => by
    rw [nodesOk, Bool.and_eq_true]
    refine ⟨h 0 (by simp), nodesOk_of2 l (k + 1) fun i hi => ?_⟩
    have h2 := h (i + 1) (by simpa using hi)
    rw [show k + 1 + i = k + (i + 1) by omega]
    simpa using h2
theorem tab_net {n : Nat} {t : Int} (hn : 1 ≤ n ∧ n ≤ 6) (hl : (tabT n t []).1.length ≤ 80) : netOk (n : Int) (tabT n t []).1 [(tabT n t []).2] = true := by
  obtain ⟨h1, h2, h3⟩ := tabT_ok (ni := (n : Int)) n t [] (Int.le_refl _) (fun i hi => by simp at hi)
  unfold netOk
  simp only [Bool.and_eq_true, decide_eq_true_eq]
  refine ⟨⟨⟨⟨by omega, by omega⟩, by simp⟩, nodesOk_of2 _ 0 (fun i hi => by rw [Nat.zero_add]; exact h1 i hi)⟩, ?_⟩
  unfold outsOkN outsOkN
  simp
  omega
def nkQ (R : Bool) (n : Nat) (t : Int) : Int × List Nd × List Int × Int :=
  if R = true then (if (tabT n t []).1.length ≤ 80 then ((n : Int), (simT n (tabT n t []).1 [(tabT n t []).2]).1, (simT n (tabT n t []).1 [(tabT n t []).2]).2, 0) else (0, [], [], 3)) else (0, [], [], 2)
theorem nkQ_fine {ni t : Int} {R : Bool} {Nr : Int} {lr : List Nd} {pr : List Int} {C : Int} (hR : R = true → 1 ≤ ni ∧ ni ≤ 6) (hQ : nkQ R ni.toNat t = (Nr, lr, pr, C)) : NdsWf lr ∧ ShsWf pr ∧ lr.length ≤ 1048576 ∧ pr.length ≤ 1048576 := by
  have nil : NdsWf ([] : List Nd) ∧ ShsWf ([] : List Int) ∧ ([] : List Nd).length ≤ 1048576 ∧ ([] : List Int).length ≤ 1048576 := ⟨fun x hx => by simp at hx, fun x hx => by simp at hx, by simp, by simp⟩
  unfold nkQ at hQ
  split at hQ
  · rename_i hr
    have hn := hR hr
    split at hQ
    · rename_i hl
      obtain ⟨-, rfl, rfl, -⟩ := quad_N hQ
      exact sim_fine (ni := ni) (by have h := tab_net (n := ni.toNat) (t := t) (by omega) hl; rw [Int.toNat_of_nonneg (by omega)] at h; exact h)
    · obtain ⟨-, rfl, rfl, -⟩ := quad_N hQ; exact nil
  · obtain ⟨-, rfl, rfl, -⟩ := quad_N hQ; exact nil
theorem allRowsF_any (n : Nat) (w : World) (hn : n ≤ 6) : Calls Try.prog 49 #[.int .i8 n] w fun e w' => e = .returned (.int .u64 (fullF n)) ∧ w = w' := by
  by_cases h0 : n = 0
  · subst h0; go_enter Try.func49, Try.ntmps49; go_wp2; go_ret; exact ⟨rfl, rfl⟩
  · have h := allRows_any n w (by omega)
    unfold fullF
    rw [if_neg h0]
    exact h
theorem l04RowsF_any (n : Nat) (w : World) (hn : n ≤ 6) : Calls Try.prog 65 #[.int .i64 n] w fun e w' => e = .returned (.int .i64 ((2 ^ n : Nat) : Int)) ∧ w = w' := by
  by_cases h0 : n = 0
  · subst h0; go_enter Try.func65, Try.ntmps65; go_wp2; go_ret; exact ⟨rfl, rfl⟩
  · have h := nRows_any n w (by omega)
    push_cast
    exact h
theorem l04FullF_any (n : Nat) (w : World) (hn : n ≤ 6) : Calls Try.prog 46 #[.int .i64 n] w fun e w' => e = .returned (.int .u64 (fullF n)) ∧ w = w' := by
  by_cases h0 : n = 0
  · subst h0; go_enter Try.func46, Try.ntmps46; go_wp2_with fail; refine (l04RowsF_any 0 _ (by omega)).mono ?_; rintro e w1 ⟨rfl, rfl⟩; go_wp2; go_ret; exact ⟨rfl, rfl⟩
  · have h := l04Full_any n w (by omega)
    unfold fullF
    rw [if_neg h0]
    exact h
end Go.Proofs.Ytdnjamlibnmpfaa
