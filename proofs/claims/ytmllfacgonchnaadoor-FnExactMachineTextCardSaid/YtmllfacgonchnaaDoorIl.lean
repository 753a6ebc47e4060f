/- Slices of numbers: the laws' own copies. -/
import Derived.Test.YtmllfacgonchnaaDoorIn
namespace Go.Proofs.YtmllfacgonchnaaDoor
open Go.ChangeShapes Go.WideShapes Go.ChangeAt Go.RowKit Go.Joins Go.Deep
set_option linter.unusedVariables false
set_option linter.unusedSimpArgs false

theorem info_i64n : (Tryd.prog.info? 2).map (fun i => (i.zero, i.size, i.bytes)) = some (some (.int .i64 0), 1, 8) := by kernel_rfl
theorem intsIn_list {cs : List Value} {k0 : IntKind} (h : Ints cs [k0]) : ∃ u0 : Int, cs = [.int k0 u0] ∧ (Lit.int k0 u0).wf = true := by
  match cs, h with
  | [_], ⟨⟨x0, rfl, h0⟩, _⟩ => exact ⟨x0, rfl, h0⟩
theorem In_of_cells {w : World} {base b o : Nat} {cs : List Value} (h : w.cells? base ⟨b, o, none⟩ 1 = some cs) (hi : Ints cs [.i64]) : ∃ p : Int, w.cell? ⟨b, o, none⟩ = some (.int .i64 p) ∧ (Lit.int .i64 p).wf = true := by
  obtain ⟨x0, rfl, h0⟩ := intsIn_list hi
  obtain ⟨_, _, hc⟩ := World.cells?_some h
  have e0 := hc 0 (by omega)
  rw [add_none] at e0
  exact ⟨x0, e0, h0⟩
theorem open_Ins {H : Type} {enc : TypeId × Value → H} {P : Program} {w : World} {base : Nat} {spare : Nat → Bool} {held : Bool} {t e : TypeId} {fuel : Nat} {v : Value} {x : DataW H × List MemPlace}
    (ht : P.underlying t = some (.slice e)) (hce : P.cellsOf e = 1) (hfl : flat P 4 e = some [.i64]) (h : DataW.trod enc P w base spare held fuel t [v] = some x) :
    ∃ l : List Int, SlIn w l v ∧ InsWf l ∧ l.length ≤ maxLen := by
  rcases open_slice ht h with ⟨h0, _⟩ | ⟨a, len, cap, m, n, D, Pl, hcs, hb, hl, hm, hmm, _, hi⟩
  · simp only [List.cons.injEq, and_true] at h0
    subst h0
    exact ⟨[], .empty none 0 rfl, fun _ h => absurd h (by simp), Nat.zero_le _⟩
  · simp only [List.cons.injEq, and_true] at hcs
    subst hcs
    have hml : len ≤ m := by rw [hmm]; split <;> omega
    by_cases h0 : len = 0
    · subst h0
      exact ⟨[], .empty (some a) cap rfl, fun _ h => absurd h (by simp), Nat.zero_le _⟩
    · rw [hce] at hi
      obtain ⟨cs0, hc0, _⟩ := hi 0 (by omega)
      obtain ⟨hs, hbl⟩ := spot_of_cells (by omega) hc0
      obtain ⟨b, o, s⟩ := a
      have hs' : s = none := hs
      have hbl' : b < w.heap.size := hbl
      clear hs hbl hc0
      subst hs'
      have hp : ∀ i, i < len → ∃ p : Int, w.cell? ⟨b, o + i * 1, none⟩ = some (.int .i64 p) ∧ (Lit.int .i64 p).wf = true := by
        intro i hil
        obtain ⟨cs, hc, hx⟩ := hi i (by omega)
        rw [add_none] at hc
        exact In_of_cells hc (flat_ints 4 e _ n cs _ hfl hx)
      obtain ⟨F, hF⟩ : ∃ F : Nat → Int, ∀ i, i < len → w.cell? ⟨b, o + i * 1, none⟩ = some (.int .i64 (F i)) ∧ (Lit.int .i64 (F i)).wf = true :=
        ⟨fun i => if h : i < len then Classical.choose (hp i h) else 0, fun i h => by simp only [h, dite_true]; exact Classical.choose_spec (hp i h)⟩
      have hlen : ((List.range len).map F).length = len := by simp
      refine ⟨(List.range len).map F, ?_, ?_, by rw [hlen]; omega⟩
      · have := SlIn.mk (w := w) (l := (List.range len).map F) b o cap (fun i hi => by
          rw [hlen] at hi
          simp only [List.getElem_map, List.getElem_range]
          have := (hF i hi).1; rw [Nat.mul_one] at this; exact this) hbl' (by rw [hlen]; exact hl)
        rwa [hlen] at this
      · intro p hp
        obtain ⟨i, hi, rfl⟩ := List.mem_map.1 hp
        exact (hF i (List.mem_range.1 hi)).2
theorem SlIn.len {w : World} {l : List Int} {a : Option Addr} {n c : Nat} (h : SlIn w l (.slice a n c)) : n = l.length := by
  cases h with
  | empty a cap h => rw [h]; rfl
  | mk b o cap _ _ _ => rfl
end Go.Proofs.YtmllfacgonchnaaDoor
