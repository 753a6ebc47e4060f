/- AdderOf: the mathematics. -/
import Derived.Test.YtdnjamlibnmpfaaBu
import Derived.Test.YtdnjamlibnmpfaaSi
namespace Go.Proofs.Ytdnjamlibnmpfaa
open Go.ChangeShapes Go.WideShapes Go.ChangeAt Go.RowKit Go.Joins Go.Deep
set_option linter.unusedVariables false
set_option linter.unusedSimpArgs false

def xorN (a : List Nd) (x y : Int) : List Nd := a ++ [⟨3, x, y⟩, ⟨3, y, x⟩, ⟨2, (a.length : Int), (a.length : Int) + 1⟩]
def andN (a : List Nd) (x y : Int) : List Nd := a ++ [⟨3, x, y⟩, ⟨3, x, (a.length : Int)⟩]
def ad1 (b i : Nat) (a : List Nd) : List Nd := a ++ [⟨0, (i : Int), 0⟩]
def ad2 (b i : Nat) (a : List Nd) : List Nd := ad1 b i a ++ [⟨0, ((b + i : Nat) : Int), 0⟩]
def ad3 (b i : Nat) (a : List Nd) : List Nd := xorN (ad2 b i a) (a.length : Int) ((ad1 b i a).length : Int)
def ad4 (b i : Nat) (a : List Nd) : List Nd := andN (ad3 b i a) (a.length : Int) ((ad1 b i a).length : Int)
def adX (b i : Nat) (a : List Nd) : Int := ((ad2 b i a).length : Int) + 2
def adA (b i : Nat) (a : List Nd) : Int := ((ad3 b i a).length : Int) + 1
def ad5 (b i : Nat) (a : List Nd) (c : Int) : List Nd := xorN (ad4 b i a) (adX b i a) c
def ad6 (b i : Nat) (a : List Nd) (c : Int) : List Nd := andN (ad5 b i a c) c (adX b i a)
def ad7 (b i : Nat) (a : List Nd) (c : Int) : List Nd := ad6 b i a c ++ [⟨2, adA b i a, ((ad5 b i a c).length : Int) + 1⟩]
def adS (b : Nat) : Nat → List Nd × List Int × Int
  | 0 => ([], [], 0)
  | i + 1 => let S := adS b i
    if i = 0 then (ad4 b i S.1, S.2.1 ++ [adX b i S.1], adA b i S.1) else (ad7 b i S.1 S.2.2, S.2.1 ++ [((ad4 b i S.1).length : Int) + 2], ((ad6 b i S.1 S.2.2).length : Int))
theorem ad_lens (b i : Nat) (a : List Nd) (c : Int) : (ad1 b i a).length = a.length + 1 ∧ (ad2 b i a).length = a.length + 2 ∧ (ad3 b i a).length = a.length + 5 ∧ (ad4 b i a).length = a.length + 7 ∧ (ad5 b i a c).length = a.length + 10 ∧ (ad6 b i a c).length = a.length + 12 ∧ (ad7 b i a c).length = a.length + 13 := by
  simp [ad1, ad2, ad3, ad4, ad5, ad6, ad7, xorN, andN]
theorem adS_len (b : Nat) : ∀ i, (adS b i).1.length ≤ 13 * i ∧ (adS b i).2.1.length = i
  | 0 => by simp [adS]
  | i + 1 => by
    have h := adS_len b i
    have hl := ad_lens b i (adS b i).1 (adS b i).2.2
    rw [adS]
    split
    · simp only [List.length_append, List.length_singleton]; omega
    · simp only [List.length_append, List.length_singleton]; omega
def adNet (b : Nat) : List Nd × List Int := ((adS b b).1, (adS b b).2.1 ++ [(adS b b).2.2])
theorem adNet_ok {b : Nat} (h : 1 ≤ b ∧ b ≤ 3) : netOk (2 * b : Nat) (adNet b).1 (adNet b).2 = true := by
  have : b = 1 ∨ b = 2 ∨ b = 3 := by omega
  rcases this with rfl | rfl | rfl <;> decide +kernel
def adQ (ok : Bool) (b : Nat) : Int × List Nd × List Int × Int := if ok = true then (((2 * b : Nat) : Int), (simT (2 * b) (adNet b).1 (adNet b).2).1, (simT (2 * b) (adNet b).1 (adNet b).2).2, 0) else (0, [], [], 2)
theorem adQ_fine {n : Int} {ok : Bool} {Nr : Int} {lr : List Nd} {pr : List Int} {C : Int} (h : ok = decide (1 ≤ n ∧ n ≤ 3)) (hQ : adQ ok n.toNat = (Nr, lr, pr, C)) : NdsWf lr ∧ ShsWf pr ∧ lr.length ≤ 1048576 ∧ pr.length ≤ 1048576 := by
  cases ok with
  | false =>
    obtain ⟨-, rfl, rfl, -⟩ := quad_N (show ((0, [], [], 2) : Int × List Nd × List Int × Int) = (Nr, lr, pr, C) from hQ)
    exact ⟨fun x hx => by simp at hx, fun x hx => by simp at hx, by simp, by simp⟩
  | true =>
    have hn := of_decide_eq_true h.symm
    obtain ⟨-, rfl, rfl, -⟩ := quad_N (show ((((2 * n.toNat : Nat) : Int), (simT (2 * n.toNat) (adNet n.toNat).1 (adNet n.toNat).2).1, (simT (2 * n.toNat) (adNet n.toNat).1 (adNet n.toNat).2).2, 0) : Int × List Nd × List Int × Int) = (Nr, lr, pr, C) from hQ)
    exact sim_fine (adNet_ok (b := n.toNat) (by omega))
/-- nodes in a box and a row of outputs -/
theorem BS.grown {w w' : World} {B b n : Nat} {T : TypeId} {acc : List Nd} {u : Value} {xs : List Value} (h : BS w B T acc) (hu : w.ownsRow b 46 1 u n xs) (hT : T ≠ 46) (g : w.grownBy w' u.ownBlock) : BS w' B T acc := by
  obtain ⟨v, h1, h2⟩ := h.ex
  refine ⟨v, (g.block B (blk_lt h1) (fun e => row_block hu h1 hT e.symm)).trans h1, ⟨h2.1, ?_⟩⟩
  rcases h2.2 with h5 | ⟨q, cap, cur, rfl, h6, h7, r⟩
  · exact .inl h5
  · exact .inr ⟨q, cap, cur, rfl, h6, (g.block q (blk_lt h7) (fun e => row_block hu h7 (by decide) e.symm)).trans h7, r⟩
end Go.Proofs.Ytdnjamlibnmpfaa
