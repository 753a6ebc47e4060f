/- DepthOf: slices.Max, and the depths. -/
import Derived.Test.YtebicgfoaefabaaDoorDpA
namespace Go.Proofs.YtebicgfoaefabaaDoor
open Go.ChangeShapes Go.WideShapes Go.ChangeAt Go.RowKit Go.Joins Go.Deep
set_option linter.unusedVariables false
set_option linter.unusedSimpArgs false

/-- the depth of a node, where the depths of those ahead of it are 'acc' -/
def depN (x : Nd) (acc : List Int) : Int :=
  if x.kind = 2 ∨ x.kind = 3 then x.kind + max (acc.getD x.a.toNat 0) (acc.getD x.b.toNat 0) else x.kind
def depsL : List Nd → List Int → List Int
  | [], acc => acc
  | x :: l, acc => depsL l (acc ++ [depN x acc])
theorem depsL_length : ∀ (l : List Nd) (acc : List Int), (depsL l acc).length = acc.length + l.length
  | [], acc => by simp [depsL]
  | x :: l, acc => by rw [depsL, depsL_length l]; simp; omega
def mxL : List Int → Int → Int
  | [], m => m
  | x :: l, m => mxL l (max m x)
def Fine (acc : List Int) : Prop := ∀ d ∈ acc, 0 ≤ d ∧ d ≤ 3 * (acc.length : Int)
theorem Fine.getD {acc : List Int} (h : Fine acc) (i : Nat) : 0 ≤ acc.getD i 0 ∧ acc.getD i 0 ≤ 3 * (acc.length : Int) := by
  by_cases hi : i < acc.length
  · rw [getD_atI hi]; exact h _ (List.getElem_mem hi)
  · rw [List.getD_eq_getElem?_getD, List.getElem?_eq_none (by omega)]; simp; omega
theorem Fine.snoc {acc : List Int} (h : Fine acc) {x : Nd} (hk : 0 ≤ x.kind ∧ x.kind ≤ 3) : Fine (acc ++ [depN x acc]) := by
  intro d hd
  have ha := h.getD x.a.toNat
  have hb := h.getD x.b.toNat
  have hl : ((acc ++ [depN x acc]).length : Int) = acc.length + 1 := by simp
  rw [hl]
  rcases List.mem_append.1 hd with hm | hm
  · have := h d hm; omega
  · obtain rfl : d = depN x acc := by simpa using hm
    unfold depN
    split <;> omega
theorem depsL_fine : ∀ (l : List Nd) (acc : List Int), Fine acc → (∀ x ∈ l, 0 ≤ x.kind ∧ x.kind ≤ 3) → Fine (depsL l acc)
  | [], acc, h, _ => h
  | x :: l, acc, h, hk => depsL_fine l _ (h.snoc (hk x (by simp))) (fun y hy => hk y (by simp [hy]))
set_option maxRecDepth 100000 in
set_option maxHeartbeats 4000000 in
theorem maxS_any (g o N c : Nat) (L : List Int) (w : World) (hL : L.length = N) (h1 : 1 ≤ N) (hN : N ≤ 80) (hc : InsAt w g o L) (hg : g < w.heap.size) (hle : N ≤ c) (M : Int) (hM : mxL (L.drop 1) (L.getD 0 0) = M) :
    Calls Tryd.prog 27 #[.slice (some ⟨g, o, none⟩) N c] w fun e w' => e = .returned (.int .i64 M) ∧ w = w' := by
  have HL := Lib.hid hL
  have h0 : 0 < L.length := by omega
  have c0 := hc 0 h0
  rw [getD_atI h0] at hM
  generalize L[0] = x0 at c0 hM
  simp only [Nat.add_zero] at c0
  have HM := Lib.hid hM
  clear hL hM h0
  go_enter Tryd.func27, Tryd.ntmps27
  go_wp2
  go_loopw [3, 4] (fun m i wr => ∃ (j : Nat) (S : Int), 1 ≤ j ∧ j ≤ N ∧ i = .int .i64 j ∧ m = .int .i64 S ∧ Hid (mxL (L.drop j) S = M) ∧ w = wr) (fun _ i _ => N - (intOf i).toNat)
  case atStart => exact ⟨1, _, by omega, by omega, rfl, rfl, HM, rfl⟩
  case round =>
    clear HM c0
    obtain ⟨j, S, hj1, hj, rfl, rfl, hf, rfl⟩ := hrel
    by_cases hlt : j < N
    · have hlk : j < L.length := by rw [HL.out]; exact hlt
      have cj := hc j hlk
      have hf2 := hf.out
      rw [List.drop_eq_getElem_cons hlk] at hf2
      generalize L[j] = x at cj hf2
      have HF : Hid (mxL (L.drop (j + 1)) (max S x) = M) := Lib.hid hf2
      clear hf2 hf
      go_wp2
      exact ⟨⟨j + 1, max S x, by omega, by omega, by go_num, by simp [Int.max_def]; try omega, HF, trivial⟩, by simp [intOf]; omega⟩
    · obtain rfl : j = N := by omega
      obtain rfl : S = M := by rw [← hf.out, List.drop_of_length_le (by rw [HL.out]; exact Nat.le_refl _)]; rfl
      clear hf
      go_wp2
      go_ret
      exact ⟨rfl, rfl⟩
end Go.Proofs.YtebicgfoaefabaaDoor
