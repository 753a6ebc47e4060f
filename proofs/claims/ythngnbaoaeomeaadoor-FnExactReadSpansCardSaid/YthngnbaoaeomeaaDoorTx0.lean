/- Texts: bytes, numbers and words as lists. -/
import Derived.Lib.ItoaNum
import Derived.Lib.Join
import Derived.Lib.UnsafeStr
import Derived.Test.YthngnbaoaeomeaaDoorG1
namespace Go.Proofs.YthngnbaoaeomeaaDoor
open Go.ChangeShapes Go.WideShapes Go.ChangeAt Go.RowKit
set_option linter.unusedVariables false

def bsT (l : List UInt8) : ByteArray := ⟨l.toArray⟩
theorem bsT_app (a b : List UInt8) : bsT a ++ bsT b = bsT (a ++ b) := by
  apply ByteArray.ext
  simp [bsT, ByteArray.data_append]
theorem bsT_list (l : List UInt8) : (bsT l).data.toList = l := by simp [bsT]
theorem bsT_size (l : List UInt8) : (bsT l).size = l.length := by simp [bsT, ByteArray.size]
def decL (n : Int) : List UInt8 := Lib.decDigits n.toNat
theorem decL_small {n : Int} (h9 : n < 10) : decL n = [UInt8.ofNat (48 + n.toNat)] := by
  unfold decL Lib.decDigits
  rw [dif_pos (by omega)]
theorem decL_step {n : Int} (h : 10 ≤ n) : decL n = decL (n / 10) ++ [UInt8.ofNat (48 + n.toNat % 10)] := by
  unfold decL
  rw [Lib.decDigits, dif_neg (by omega), show (n / 10).toNat = n.toNat / 10 by omega]
theorem decL_len2 {n : Int} (h : n < 100) : (decL n).length ≤ 2 := by
  by_cases h9 : n < 10
  · rw [decL_small h9]; simp
  · rw [decL_step (by omega), decL_small (by omega)]; simp
theorem decL_len4 {n : Int} (h : n < 10000) : (decL n).length ≤ 4 := by
  by_cases h9 : n < 100
  · have := decL_len2 h9; omega
  · rw [decL_step (by omega), decL_step (by omega), List.length_append, List.length_append]
    have := decL_len2 (n := n / 10 / 10) (by omega)
    simp only [List.length_cons, List.length_nil]
    omega
def lineL (ws : List (List UInt8)) : List UInt8 := Lib.join ws [32] ++ [10]
theorem join2 (a b : List UInt8) : Lib.join [a, b] [32] = a ++ ([32] ++ b) := by simp [Lib.join_cons, Lib.joinTail]
theorem join3 (a b c : List UInt8) : Lib.join [a, b, c] [32] = a ++ ([32] ++ (b ++ ([32] ++ c))) := by simp [Lib.join_cons, Lib.joinTail]
theorem join4 (a b c d : List UInt8) : Lib.join [a, b, c, d] [32] = a ++ ([32] ++ (b ++ ([32] ++ (c ++ ([32] ++ d))))) := by simp [Lib.join_cons, Lib.joinTail]
theorem join5 (a b c d e : List UInt8) : Lib.join [a, b, c, d, e] [32] = a ++ ([32] ++ (b ++ ([32] ++ (c ++ ([32] ++ (d ++ ([32] ++ e))))))) := by simp [Lib.join_cons, Lib.joinTail]
theorem join6 (a b c d e f : List UInt8) : Lib.join [a, b, c, d, e, f] [32] = a ++ ([32] ++ (b ++ ([32] ++ (c ++ ([32] ++ (d ++ ([32] ++ (e ++ ([32] ++ f))))))))) := by simp [Lib.join_cons, Lib.joinTail]
def kindWL (k : Int) : List UInt8 :=
  match k.toNat with
  | 0 => [108, 105, 110, 101]
  | 1 => [99, 111, 114, 110, 101, 114]
  | 2 => [102, 111, 114, 107]
  | 3 => [111, 110, 101, 119, 97, 121]
  | 4 => [103, 97, 116, 101]
  | _ => [99, 114, 111, 115, 115]
def sideWL (k : Int) : List UInt8 :=
  match k.toNat with
  | 0 => [110, 111, 114, 116, 104]
  | 1 => [101, 97, 115, 116]
  | 2 => [115, 111, 117, 116, 104]
  | _ => [119, 101, 115, 116]
theorem kindWL_len (k : Int) : (kindWL k).length ≤ 6 := by unfold kindWL; split <;> simp
theorem sideWL_len (k : Int) : (sideWL k).length ≤ 5 := by unfold sideWL; split <;> simp
theorem lineL_len {ws : List (List UInt8)} {m : Nat} (h : ∀ x ∈ ws, x.length ≤ m) : (lineL ws).length ≤ ws.length * (m + 1) + 1 := by
  have key : ∀ r : List (List UInt8), (∀ x ∈ r, x.length ≤ m) → (Lib.joinTail [32] r).length ≤ r.length * (m + 1) := by
    intro r
    induction r with
    | nil => intro _; simp [Lib.joinTail]
    | cons x r ih =>
      intro h
      have h1 := ih (fun y hy => h y (List.mem_cons_of_mem _ hy))
      have h2 := h x (List.mem_cons_self ..)
      simp only [Lib.joinTail, List.map_cons, List.flatten_cons, List.length_append, List.length_cons, List.length_nil] at h1 ⊢
      rw [Nat.succ_mul]
      omega
  unfold lineL
  cases ws with
  | nil => simp [Lib.join_nil]
  | cons x r =>
    rw [Lib.join_cons]
    have h1 := key r (fun y hy => h y (List.mem_cons_of_mem _ hy))
    have h2 := h x (List.mem_cons_self ..)
    simp only [List.length_append, List.length_cons, List.length_nil]
    rw [Nat.succ_mul]
    omega
end Go.Proofs.YthngnbaoaeomeaaDoor
