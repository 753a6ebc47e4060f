/- Reading of a board that comes in: its size, and the pieces of its slice. -/
import Derived.Test.YthancdlkkfegnaaEqB
import Derived.Lib.SmallJoins
namespace Go.Proofs.Ythancdlkkfegnaa
open Go.ChangeShapes Go.WideShapes Go.ChangeAt Go.RowKit Go.Joins Go.Deep
set_option linter.unusedVariables false

theorem add_none (b o n : Nat) : (⟨b, o, none⟩ : Addr).add n = ⟨b, o + n, none⟩ := by
  unfold Addr.add
  split
  · subst_vars; rfl
  · rfl

theorem spot_of_cells {w : World} {base : Nat} {a : Addr} {n : Nat} {cs : List Value} (hn : 0 < n) (h : w.cells? base a n = some cs) : a.spot = none ∧ a.block < w.heap.size := by
  obtain ⟨_, hl, hc⟩ := World.cells?_some h
  have h0 := hc 0 hn
  rw [List.getElem?_eq_getElem (by omega), show a.add 0 = a from rfl] at h0
  refine ⟨?_, World.block_lt_of_cell? w _ h0⟩
  cases hs : a.spot with
  | none => rfl
  | some s =>
    unfold World.cell? at h0
    rw [hs] at h0
    split at h0 <;> simp at h0

theorem ints_list5 {cs : List Value} (h : Ints cs [.i8, .i8, .i8, .i8, .i8]) :
    ∃ p : Pc, cs = p.cells ∧ p.in8 := by
  obtain ⟨x, y, z, u, v, e, hx, hy, hz, hu, hv⟩ := ints_five (cs := ⟨cs⟩) h
  exact ⟨⟨x, y, z, u, v⟩, congrArg Array.toList e, i8_of hx, i8_of hy, i8_of hz, i8_of hu, i8_of hv⟩

theorem pc_of_cells {w : World} {base b o : Nat} {cs : List Value} (h : w.cells? base ⟨b, o, none⟩ 5 = some cs) (hi : Ints cs [.i8, .i8, .i8, .i8, .i8]) : ∃ p : Pc, PcAt w b o p ∧ p.in8 := by
  obtain ⟨p, rfl, hp⟩ := ints_list5 hi
  obtain ⟨_, _, hc⟩ := World.cells?_some h
  have h0 := hc 0 (by omega)
  have h1 := hc 1 (by omega)
  have h2 := hc 2 (by omega)
  have h3 := hc 3 (by omega)
  have h4 := hc 4 (by omega)
  rw [add_none] at h0 h1 h2 h3 h4
  exact ⟨p, ⟨h0, h1, h2, h3, h4⟩, hp⟩

theorem all8_nil : All8 [] := fun _ h => absurd h (by simp)

theorem open_pcs {H : Type} {enc : TypeId × Value → H} {P : Program} {w : World} {base : Nat} {spare : Nat → Bool} {held : Bool} {t e : TypeId} {fuel : Nat} {v : Value} {x : DataW H × List MemPlace}
    (ht : P.underlying t = some (.slice e)) (hce : P.cellsOf e = 5) (hfl : flat P 4 e = some [.i8, .i8, .i8, .i8, .i8]) (h : DataW.trod enc P w base spare held fuel t [v] = some x) :
    ∃ l : List Pc, Sl w l v ∧ All8 l ∧ l.length ≤ maxLen := by
  rcases open_slice ht h with ⟨h0, _⟩ | ⟨a, len, cap, m, n, D, Pl, hcs, hb, hl, hm, hmm, _, hi⟩
  · simp only [List.cons.injEq, and_true] at h0
    subst h0
    exact ⟨[], .empty none 0 rfl, all8_nil, Nat.zero_le _⟩
  · simp only [List.cons.injEq, and_true] at hcs
    subst hcs
    have hml : len ≤ m := by rw [hmm]; split <;> omega
    by_cases h0 : len = 0
    · subst h0
      exact ⟨[], .empty (some a) cap rfl, all8_nil, Nat.zero_le _⟩
    · rw [hce] at hi
      obtain ⟨cs0, hc0, _⟩ := hi 0 (by omega)
      obtain ⟨hs, hbl⟩ := spot_of_cells (by omega) hc0
      obtain ⟨b, o, s⟩ := a
      have hs' : s = none := hs
      have hbl' : b < w.heap.size := hbl
      clear hs hbl hc0
      subst hs'
      have hp : ∀ i, i < len → ∃ p : Pc, PcAt w b (o + i * 5) p ∧ p.in8 := by
        intro i hil
        obtain ⟨cs, hc, hx⟩ := hi i (by omega)
        rw [add_none] at hc
        exact pc_of_cells hc (flat_ints 4 e _ n cs _ hfl hx)
      obtain ⟨F, hF⟩ : ∃ F : Nat → Pc, ∀ i, i < len → PcAt w b (o + i * 5) (F i) ∧ (F i).in8 :=
        ⟨fun i => if h : i < len then Classical.choose (hp i h) else ⟨0, 0, 0, 0, 0⟩, fun i h => by simp only [h, dite_true]; exact Classical.choose_spec (hp i h)⟩
      have hlen : ((List.range len).map F).length = len := by simp
      refine ⟨(List.range len).map F, ?_, ?_, by rw [hlen]; omega⟩
      · have := Sl.mk (w := w) (l := (List.range len).map F) b o cap (fun i hi => by
          rw [hlen] at hi
          simp only [List.getElem_map, List.getElem_range]
          exact (hF i hi).1) hbl' (by rw [hlen]; exact hl)
        rwa [hlen] at this
      · intro p hp
        obtain ⟨i, hi, rfl⟩ := List.mem_map.1 hp
        exact (hF i (List.mem_range.1 hi)).2

theorem open_board {H : Type} {enc : TypeId × Value → H} {P : Program} {w : World} {r : Reach} {b0 base : Nat} {spare : Nat → Bool} {held : Bool} {t e : TypeId} {f0 f1 f2 : Field} {v : Value} {d : DataW H} {p : List MemPlace}
    (hs : P.underlying t = some (.struct #[f0, f1, f2])) (hone : oneCellFields P #[f0, f1, f2] = true) (hC : P.cellsOf t = 3) (h0 : P.underlying f0.type = some (.int .i8)) (h1 : P.underlying f1.type = some (.int .i8)) (h2 : P.underlying f2.type = some (.slice e))
    (hce : P.cellsOf e = 5) (hfl : flat P 4 e = some [.i8, .i8, .i8, .i8, .i8]) (hv : Value.okWide P w r b0 t v) (h : DataW.Trod enc P w base spare held t v d p) :
    ∃ (wd hi : Int) (s : Value) (l : List Pc), v = .agg #[.int .i8 wd, .int .i8 hi, s] ∧ i8 wd ∧ i8 hi ∧ Sl w l s ∧ All8 l ∧ l.length ≤ 9223372036854775807 := by
  obtain ⟨v0, v1, v2, y0, y1, y2, n, rfl, _, _, g0, g1, g2⟩ := open_agg3 hs hone hC hv h
  obtain ⟨a, ha, _, wa⟩ := DataW.trod_int h0 g0
  obtain ⟨b, hb, _, wb⟩ := DataW.trod_int h1 g1
  simp only [List.cons.injEq, and_true] at ha hb
  subst ha hb
  obtain ⟨l, hl, h8, hm⟩ := open_pcs h2 hce hfl g2
  exact ⟨a, b, v2, l, rfl, i8_of wa, i8_of wb, hl, h8, by unfold maxLen at hm; omega⟩

theorem board_struct : ∃ f0 f1 f2 : Field, Try.prog.underlying 25 = some (.struct #[f0, f1, f2]) ∧ oneCellFields Try.prog #[f0, f1, f2] = true ∧ Try.prog.underlying f0.type = some (.int .i8) ∧ Try.prog.underlying f1.type = some (.int .i8) ∧ Try.prog.underlying f2.type = some (.slice 42) :=
  ⟨_, _, _, Try.underlying25, by kernel_rfl, by kernel_rfl, by kernel_rfl, by kernel_rfl⟩
theorem board_cells : Try.prog.cellsOf 25 = 3 := by kernel_rfl
theorem piece_cells : Try.prog.cellsOf 42 = 5 := by kernel_rfl
set_option maxRecDepth 100000 in
theorem piece_flat : flat Try.prog 4 42 = some [.i8, .i8, .i8, .i8, .i8] := by kernel_rfl
end Go.Proofs.Ythancdlkkfegnaa
