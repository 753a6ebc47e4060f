/- Whole blocks, carried from world to world; boxes of results. -/
import Derived.Test.YthancdlkkfegnaaCp
import Derived.Test.YthancdlkkfegnaaBo
import Derived.Laws.Tables
import Derived.Laws.Rows
namespace Go.Proofs.Ythancdlkkfegnaa
open Go.ChangeShapes Go.WideShapes Go.ChangeAt Go.RowKit
set_option linter.unusedVariables false

theorem blk_lt {W : World} {b : Nat} {o : Obj} (h : W.heap[b]? = some o) : b < W.heap.size := (Array.getElem?_eq_some_iff.1 h).1
theorem blk_below {W W' : World} {b : Nat} {o : Obj} (h : W.heap[b]? = some o) (g : Below W.heap.size W W') : W'.heap[b]? = some o := (g.block b (blk_lt h)).trans h
theorem blk_out {lo hi : Nat} {W W' : World} {b : Nat} {o : Obj} (h : W.heap[b]? = some o) (g : KeptOut lo hi W W') (ho : b < lo ∨ hi ≤ b) : W'.heap[b]? = some o := (g.block b (blk_lt h) ho).trans h
theorem blk_set {W : World} {b : Nat} {o : Obj} {p : Addr} {v : Value} (h : W.heap[b]? = some o) (ho : b ≠ p.block) : (W.setCell p v).heap[b]? = some o := (Below.heap_setCell _ _ _ _ ho).trans h
theorem blk_drew {W : World} {b : Nat} {o : Obj} (h : W.heap[b]? = some o) : W.drew.heap[b]? = some o := h
theorem blk_row {W : World} {b g : Nat} {o : Obj} {cs : Array Value} (h : W.heap[b]? = some o) (ho : b ≠ g) : (W.setRow g cs).heap[b]? = some o := (setRow_other _ _ _ _ ho).trans h
theorem kRowW {a b : World} {g : Nat} (h : Below a.heap.size a b) (hg : a.heap.size ≤ g) (cs : Array Value) : Below a.heap.size a (b.setRow g cs) :=
  h.trans ⟨rfl, rfl, rfl, by simp, fun k hk => setRow_other _ _ _ _ (by omega)⟩
theorem SlW.form {lo hi : Nat} {w : World} {l : List Pc} {v : Value} (h : SlW lo hi w l v) : ∃ a c, v = .slice a l.length c := by
  cases h with
  | empty a cap h => exact ⟨a, cap, by rw [h]; rfl⟩
  | mk b o cap _ _ _ _ _ _ => exact ⟨_, cap, rfl⟩
theorem BdAt.of {w : World} {b : Nat} {wd hi : Int} {v : Value} {t : TypeId} (h : w.heap[b]? = some (.cells #[.int .i8 wd, .int .i8 hi, v] t (0, 0))) : BdAt w b 0 wd hi v :=
  ⟨cell_of_row w b 0 _ _ _ h, cell_of_row w b 1 _ _ _ h, cell_of_row w b 2 _ _ _ h⟩
theorem PcsAt.row {w : World} {b o g : Nat} {l : List Pc} {cs : Array Value} (h : PcsAt w b o l) (hne : b ≠ g) : PcsAt (w.setRow g cs) b o l := by
  have hb : (w.setRow g cs).heap[b]? = w.heap[b]? := setRow_other _ _ _ _ hne
  have hc : ∀ j, (w.setRow g cs).cell? ⟨b, j, none⟩ = w.cell? ⟨b, j, none⟩ := fun j => World.cell?_of_block (w := w) hb
  intro i hi
  obtain ⟨h0, h1, h2, h3, h4⟩ := h i hi
  exact ⟨(hc _).trans h0, (hc _).trans h1, (hc _).trans h2, (hc _).trans h3, (hc _).trans h4⟩
theorem SlW.row {lo hi g : Nat} {w : World} {l : List Pc} {v : Value} {cs : Array Value} (h : SlW lo hi w l v) (hg : g < lo) : SlW lo hi (w.setRow g cs) l v := by
  cases h with
  | empty a cap h => exact .empty a cap h
  | mk b o cap hc h1 h2 hb hf hl =>
    have he : (w.setRow g cs).heap[b]? = w.heap[b]? := setRow_other _ _ _ _ (by omega)
    exact .mk b o cap (hc.row (by omega)) h1 h2 (by simpa [World.setRow] using hb) (fun j => (World.frozen?_of_block (w := w) he).trans (hf j)) hl
theorem SlW.setFar {lo hi : Nat} {w : World} {l : List Pc} {v u : Value} {p : Addr} (h : SlW lo hi w l v) (hg : p.block < lo) : SlW lo hi (w.setCell p u) l v := by
  cases h with
  | empty a cap h => exact .empty a cap h
  | mk b o cap hc h1 h2 hb hf hl =>
    have he : (w.setCell p u).heap[b]? = w.heap[b]? := Below.heap_setCell _ _ _ _ (by omega)
    exact .mk b o cap (hc.setB (by omega)) h1 h2 (by simpa [World.setCell] using hb) (fun j => (World.frozen?_of_block (w := w) he).trans (hf j)) hl
theorem blk_set_same' {w : World} {b i : Nat} {cs : Array Value} {t : TypeId} {fr : Nat × Nat} {v : Value} (h : w.heap[b]? = some (.cells cs t fr)) : (w.setCell ⟨b, i, none⟩ v).heap[b]? = some (.cells (cs.setIfInBounds i v) t fr) := by
  simp [World.setCell, Array.getElem?_modify, h]
theorem box3_set {w : World} {b : Nat} {t : TypeId} {fr : Nat × Nat} {x y z x' y' z' : Value} (h : w.heap[b]? = some (.cells #[x, y, z] t fr)) : (((w.setCell ⟨b, 0, none⟩ x').setCell ⟨b, 1, none⟩ y').setCell ⟨b, 2, none⟩ z').heap[b]? = some (.cells #[x', y', z'] t fr) :=
  blk_set_same' (blk_set_same' (blk_set_same' h))
/-- a result in a box, and one in a slot -/
theorem results_cell_tmp {P : Program} {fn : Func} {p q : Tmp} {ty : TypeId} (h : fn.results = #[.cell p ty, .tmp q]) (tmps : Array Value) (w : World) (g : Nat) (t : TypeId) (cs : Array Value) (fr : Nat × Nat) (d : TypeDesc) (v : Value)
    (hp : tmps.getD p undef = .pointer (some ⟨g, 0, none⟩)) (hq : tmps.getD q undef = v) (hg : w.heap[g]? = some (.cells cs t fr))
    (hu : P.underlying ty = some d) (hd : (match d with | .struct _ | .array _ _ => true | _ => false) = true) (hi : (P.info? ty).map (·.size) = some cs.size) :
    (results fn tmps).run P w = .ok (.tuple #[.agg cs, v]) w := by
  have hp' : tmps[p]?.getD undef = .pointer (some ⟨g, 0, none⟩) := by simpa using hp
  have hq' : tmps[q]?.getD undef = v := by simpa using hq
  simp [results, h, hp', hq', asAddr, run_loadVar_row w g t ty cs fr d hg hu hd hi]
set_option maxHeartbeats 1000000 in
theorem withPieces_any (wd hi : Int) (v u : Value) (w : World) (hu : ∃ a n c, u = .slice a n c) :
    Calls Try.prog 79 #[.agg #[.int .i8 wd, .int .i8 hi, v], u] w fun e w' => e = .returned (.agg #[.int .i8 wd, .int .i8 hi, u]) ∧ Below w.heap.size w w' := by
  obtain ⟨ua, un, uc, rfl⟩ := hu
  go_enter Try.func79, Try.ntmps79
  go_wp2
  exact bodyPost_ret (v := .agg #[.int .i8 wd, .int .i8 hi, .slice ua un uc]) (by simp [results, Try.results79, go_sem]) rfl ⟨rfl, by repeat (first | with_reducible exact Below.refl _ _ | (with_reducible refine kSet ?_ ?hB _; case hB => (simp; try omega)) | with_reducible refine kAlloc ?_ _ | with_reducible refine Below.drew ?_ | with_reducible refine kDrewN ?_ _ | with_reducible refine kTrans ?_ (by assumption))⟩
end Go.Proofs.Ythancdlkkfegnaa
