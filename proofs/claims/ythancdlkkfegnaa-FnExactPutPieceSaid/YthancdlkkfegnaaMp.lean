/- The map from cells to indices that a layout has: what a look-up finds, and what a store makes of it. -/
import Derived.Test.YthancdlkkfegnaaFind
import Derived.MapKept
namespace Go.Proofs.Ythancdlkkfegnaa
open Go.ChangeShapes Go.WideShapes Go.ChangeAt Go.RowKit
set_option linter.unusedVariables false

def cellV (x y : Int) : Value := .agg #[.int .i8 x, .int .i8 y]
/-- entries that are the cells of the pieces, with their indices from j on -/
def EntAre : List MapEntry → List Pc → Int → Prop
  | [], [], _ => True
  | e :: es, p :: l, j => e.key = cellV p.x p.y ∧ e.val = .int .i64 j ∧ EntAre es l (j + 1)
  | _, _, _ => False
theorem EntAre.length : ∀ {es : List MapEntry} {l : List Pc} {j : Int}, EntAre es l j → es.length = l.length
  | [], [], _, _ => rfl
  | _ :: _, _ :: _, _, h => by simp [EntAre.length h.2.2]
  | [], _ :: _, _, h => h.elim
  | _ :: _, [], _, h => h.elim
theorem EntAre.snoc : ∀ {es : List MapEntry} {l : List Pc} {j : Int} {e : MapEntry} {p : Pc}, EntAre es l j → e.key = cellV p.x p.y → e.val = .int .i64 (j + l.length) → EntAre (es ++ [e]) (l ++ [p]) j
  | [], [], j, e, p, _, hk, hv => ⟨hk, by simpa using hv, trivial⟩
  | _ :: _, _ :: _, j, e, p, h, hk, hv => ⟨h.1, h.2.1, EntAre.snoc h.2.2 hk (by rw [hv]; simp; omega)⟩
  | [], _ :: _, _, _, _, h, _, _ => h.elim
  | _ :: _, [], _, _, _, h, _, _ => h.elim

theorem cellEqual (x y a b : Int) (w : World) : (Op.equal 38 (cellV x y) (cellV a b)).run Try.prog w = .ok (x == a && y == b) w := cellEq_any x y a b w

theorem findAsking_cells (x y : Int) (w : World) : ∀ (es : List MapEntry) (l : List Pc) (j : Int) (i : Nat), EntAre es l j → 0 ≤ j →
    ∃ q : Nat, (Instr.findAsking 38 (cellV x y) es i).run Try.prog w = .ok (if findFrom x y l j < 0 then none else some (q, .int .i64 (findFrom x y l j))) w ∧ (¬ findFrom x y l j < 0 → j ≤ findFrom x y l j)
  | [], [], j, i, _, _ => ⟨0, by simp [Instr.findAsking, findFrom], by simp [findFrom]⟩
  | e :: es, p :: l, j, i, ⟨hk, hv, h⟩, hj => by
    by_cases hx : p.x = x ∧ p.y = y
    · refine ⟨i, ?_, ?_⟩
      · have e1 : findFrom x y (p :: l) j = j := by simp [findFrom, hx]
        rw [e1, if_neg (by omega)]
        simp [Instr.findAsking, Sem.run_bind, hk, cellEqual, Result.andThen, hx.1, hx.2, hv]
      · intro _; simp [findFrom, hx]
    · obtain ⟨q, hq, hl⟩ := findAsking_cells x y w es l (j + 1) (i + 1) h (by omega)
      have e1 : findFrom x y (p :: l) j = findFrom x y l (j + 1) := by simp [findFrom, hx]
      have e2 : (x == p.x && y == p.y) = false := by
        cases h1 : (x == p.x) <;> cases h2 : (y == p.y) <;> simp
        exact hx ⟨by simpa using (beq_iff_eq.1 h1).symm, by simpa using (beq_iff_eq.1 h2).symm⟩
      refine ⟨q, ?_, fun hn => ?_⟩
      · rw [e1, ← hq]
        simp [Instr.findAsking, Sem.run_bind, hk, cellEqual, Result.andThen, e2]
      · rw [e1] at hn ⊢; have := hl hn; omega
  | [], _ :: _, _, _, h, _ => h.elim
  | _ :: _, [], _, _, h, _ => h.elim

theorem check_cell (em : Bool) (x y : Int) (w : World) : (Instr.checkKey em 10000 38 (cellV x y)).run Try.prog w = .ok () w := by kernel_rfl

theorem findKey_cells (x y : Int) (w : World) (es : List MapEntry) (l : List Pc) (h : EntAre es l 0) :
    ∃ q : Nat, (Instr.findKey 38 (cellV x y) es).run Try.prog w = .ok (if findFrom x y l 0 < 0 then none else some (q, .int .i64 (findFrom x y l 0))) w := by
  match es, l, h with
  | [], [], _ => exact ⟨0, by simp [Instr.findKey, Instr.findNow, findFrom, run_underlying Try.underlying38, Result.andThen]⟩
  | e :: es, p :: l, h =>
    obtain ⟨q, hq, _⟩ := findAsking_cells x y w (e :: es) (p :: l) 0 0 h (by omega)
    refine ⟨q, ?_⟩
    rw [← hq]
    simp [Instr.findKey, Instr.findNow, Instr.sameNow, Sem.run_bind, run_underlying Try.underlying38, Result.andThen]

/-- block B is a map whose entries are the cells of the pieces, with their indices -/
def MapAt (w : World) (B : Nat) (l : List Pc) : Prop := ∃ es clock, w.heap[B]? = some (.map es clock) ∧ EntAre es.toList l 0

theorem run_lookup_cells (x y : Int) (w : World) (B : Nat) (l : List Pc) (h : MapAt w B l) :
    (Instr.lookup 92 (.map (some B)) (cellV x y) true).run Try.prog w = .ok (.tuple #[.int .i64 (if findFrom x y l 0 < 0 then 0 else findFrom x y l 0), .bool (decide (0 ≤ findFrom x y l 0))]) w := by
  obtain ⟨es, clock, hb, he⟩ := h
  obtain ⟨q, hq⟩ := findKey_cells x y w es.toList l he
  have hg : (getObj B).run Try.prog w = .ok (.map es clock) w := Go.MapKept.run_getObj_map hb
  have hz : (zeroValue 2).run Try.prog w = .ok (.int .i64 0) w := by kernel_rfl
  simp only [Instr.lookup, Sem.run_bind, run_underlying Try.underlying92, Result.andThen_ok, hg, Sem.run_pure, check_cell, hq]
  by_cases hf : findFrom x y l 0 < 0
  · have h1 : ¬ 0 ≤ findFrom x y l 0 := by omega
    simp [hf, h1, hz, Result.andThen]
  · have h1 : 0 ≤ findFrom x y l 0 := by omega
    simp [hf, h1]

/-- a store of a cell that is not there yet -/
theorem run_update_cells (p : Pc) (w : World) (B : Nat) (l : List Pc) (h : MapAt w B l) (hn : findFrom p.x p.y l 0 < 0) :
    ∃ w', (Instr.mapUpdate 92 (.map (some B)) (cellV p.x p.y) (.int .i64 l.length)).run Try.prog w = .ok () w' ∧ MapAt w' B (l ++ [p]) ∧ (∀ k, k ≠ B → w'.heap[k]? = w.heap[k]?) ∧ w'.heap.size = w.heap.size ∧ w'.os = w.os ∧ w'.tape = w.tape ∧ w'.output = w.output := by
  obtain ⟨es, clock, hb, he⟩ := h
  obtain ⟨q, hq⟩ := findKey_cells p.x p.y w es.toList l he
  have hg : (getObj B).run Try.prog w = .ok (.map es clock) w := Go.MapKept.run_getObj_map hb
  have hs := Go.MapKept.run_setObj_map (P := Try.prog) (.map (es.push { key := cellV p.x p.y, val := .int .i64 l.length, born := clock }) (clock + 1)) hb
  rw [if_pos hn] at hq
  have hlt : B < w.heap.size := (Array.getElem?_eq_some_iff.1 hb).1
  refine ⟨{ w with heap := w.heap.setIfInBounds B (.map (es.push { key := cellV p.x p.y, val := .int .i64 l.length, born := clock }) (clock + 1)) }, ?_, ⟨es.push { key := cellV p.x p.y, val := .int .i64 l.length, born := clock }, clock + 1, ?_, ?_⟩, ?_, ?_, rfl, rfl, rfl⟩
  rotate_left
  · simp [hlt]
  · rw [Array.toList_push]; exact he.snoc rfl (by simp)
  · intro k hk; simp [Ne.symm hk]
  · simp
  · simp only [Instr.mapUpdate, Sem.run_bind, run_underlying Try.underlying92, Result.andThen_ok, hg, check_cell, hq]
    exact hs
end Go.Proofs.Ythancdlkkfegnaa
