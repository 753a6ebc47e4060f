/- Texts: numbers, lines and the builder, both sides. -/
import Derived.Test.YthngnbaoaeomeaaDoorTx0
import Derived.Test.YthngnbaoaeomeaaDoorTxL
import Derived.Test.YthngnbaoaeomeaaDoorG1
import Derived.Laws.IdiomStrings
import Derived.Deep.RegionHeld3
import Derived.Deep.DeepCutAuto
namespace Go.Proofs.YthngnbaoaeomeaaDoor
open Go.ChangeShapes Go.WideShapes Go.ChangeAt Go.RowKit Go.Joins Go.Deep
set_option linter.unusedVariables false
set_option linter.unusedSimpArgs false

def onlyX (Q : Exit → Act → World → Prop) : Exit → Act → World → Prop := fun e a w => e = .normal ∧ Q e a w
theorem regionW_of_HX {id : Nat} {P : Program} {ops : Array Oper} {Q : Exit → Act → World → Prop} {a : Act} {w : World} (S : World → Prop) (hm : P.follows .mixedOrders = true)
    (hS : S w.drew) (h : S w.drew → wpAnyH P .any ops (onlyX Q) S ops.size (Array.replicate ops.size false) a w.drew) : (Code.region id ops true).wp P Q a w :=
  wp_mono (wp_region_any hm (wpAny_of_held _ _ _ _ (h hS))) (fun e a w hq => by obtain ⟨rfl, hq⟩ := hq; exact hq)
theorem blkX {W W' : World} {b : Nat} {o : Obj} (h : W.heap[b]? = some o) (g : Below W.heap.size W W') : W'.heap[b]? = some o := (g.block b (Array.getElem?_eq_some_iff.1 h).1).trans h
theorem nNewX (w : World) (o : Obj) : (w.alloc o).heap[w.heap.size]? = some o := heap_alloc_new _ _
/-! ### the program's numbers and lines -/
theorem smallText_any (n : Int) (w : World) (h0 : 0 ≤ n) (h1 : n < 100) :
    Calls Tryd.prog 63 #[.int .i8 n] w fun e w' => e = .returned (.string (bsT (decL n))) ∧ w' = w := by
  obtain ⟨i, rfl⟩ : ∃ i : Nat, n = i := ⟨n.toNat, by omega⟩
  have hc : ∀ w, Calls Tryd.prog 75 #[.int .i64 i] w fun e w' => e = .returned (.string (bsT (decL i))) ∧ w' = w := fun w => by
    have e1 : decL (i : Int) = Lib.decDigits i := by simp [decL]
    rw [e1]
    exact strconv_Itoa_small i (by omega) w
  obtain ⟨d, hd⟩ : ∃ d, decL (i : Int) = d := ⟨_, rfl⟩
  rw [hd] at hc ⊢
  have Hc := Lib.hid hc
  have hw : IntKind.i64.wrap (i : Int) = i := IntWalk.i64_in _ (by omega)
  clear hc hd
  go_enter Tryd.func63, Tryd.ntmps63
  go_wp2_with (refine (Hc.out _).mono ?_; rintro e w' ⟨rfl, rfl⟩)
  go_ret
  exact ⟨rfl, rfl⟩
theorem wordsLine_any (b o c : Nat) (ws : List (List UInt8)) (w : World) (hcells : ∀ (j : Nat) x, ws[j]? = some x → w.cell? ⟨b, o + j, none⟩ = some (.string (bsT x))) (hb : b < w.heap.size) (hcap : ws.length ≤ c) (hlen : (lineL ws).length ≤ 1000000) (hN : ws.length ≤ 1000000) :
    Calls Tryd.prog 66 #[.slice (some ⟨b, o, none⟩) ws.length c] w fun e w' => e = .returned (.string (bsT (lineL ws))) ∧ Below w.heap.size w w' := by
  have e1 : (ws.map bsT).map (·.data.toList) = ws := by
    rw [List.map_map]
    conv => rhs; rw [← List.map_id ws]
    apply List.map_congr_left
    intro x _
    exact bsT_list x
  have hj := strings_Join b o c (ws.map bsT) (bsT [32]) w (fun j x hx => by
    rw [List.getElem?_map] at hx
    cases h : ws[j]? with
    | none => rw [h] at hx; simp at hx
    | some y => rw [h] at hx; simp at hx; subst hx; exact hcells j y h) hb (by rw [List.length_map]; omega) (by rw [List.length_map]; exact hcap) (by
    rw [e1, bsT_list]
    have h2 := hlen
    simp only [lineL, List.length_append] at h2
    omega)
  rw [e1, bsT_list, List.length_map] at hj
  obtain ⟨S, hS⟩ : ∃ S, bsT (Lib.join ws [32]) = S := ⟨_, rfl⟩
  have hSs : S.size ≤ 1000000 := by
    rw [← hS, bsT_size]
    have h2 := hlen
    simp only [lineL, List.length_append] at h2
    omega
  have hj : Calls Tryd.prog 83 #[.slice (some ⟨b, o, none⟩) ws.length c, .string (bsT [32])] w fun e w' => e = .returned (.string S) ∧ Below w.heap.size w w' := by rw [← hS]; exact hj
  have e2 : bsT (lineL ws) = S ++ bsT [10] := by rw [← hS, bsT_app]; rfl
  rw [e2]
  obtain ⟨m, hm⟩ : ∃ m, ws.length = m := ⟨_, rfl⟩
  rw [hm] at hj ⊢
  have Hj := Lib.hid hj
  clear hj hcells hS e1 e2 hm hlen hN hcap
  go_enter Tryd.func66, Tryd.ntmps66
  go_wp2_with fail
  refine Hj.out.mono ?_
  rintro e w1 ⟨rfl, hb1⟩
  have HB := Lib.hid hb1
  clear hb1 Hj
  go_wp2
  go_ret
  exact ⟨rfl, HB.out⟩
/-! ### the builder -/
def BAt (B b : Nat) (L : List UInt8) (w : World) : Prop := Lib.IsBuilder 110 5 B b (Lib.byteCells L) w
theorem BAt.fresh (w : World) : BAt w.heap.size w.heap.size [] (w.alloc (.cells #[.pointer none, .slice none 0 0] 110)) := Lib.fresh_isBuilder _ _ _
theorem BAt.below {B b : Nat} {L : List UInt8} {w w' : World} (h : BAt B b L w) (g : Below w.heap.size w w') : BAt B b L w' := by
  have key : ∀ p, Lib.BuilderAt 110 5 B b p (Lib.byteCells L) w → Lib.BuilderAt 110 5 B b p (Lib.byteCells L) w' := by
    rintro p ⟨h1, v, h2, h3, h4⟩
    refine ⟨h1, v, (g.block b (Array.getElem?_eq_some_iff.1 h2).1).trans h2, ⟨h3.1, ?_⟩, h4⟩
    rcases h3.2 with h | ⟨k, cap, cur, e1, e2, e3, r⟩
    · exact .inl h
    · exact .inr ⟨k, cap, cur, e1, e2, (g.block k (Array.getElem?_eq_some_iff.1 e3).1).trans e3, r⟩
  rcases h with h | h
  · exact .inl (key _ h)
  · exact .inr (key _ h)
theorem BAt.lt {B b : Nat} {L : List UInt8} {w : World} (h : BAt B b L w) : b < w.heap.size := by
  rcases h with h | h <;> exact h.lt
theorem BAt.le {B b : Nat} {L : List UInt8} {w : World} (h : BAt B b L w) : B ≤ b := by
  rcases h with h | h <;> exact h.1
theorem writeStr_any (B b : Nat) (L r : List UInt8) (w : World) (h : BAt B b L w) (hlen : L.length + r.length ≤ 1000000) :
    Calls Tryd.prog 65 #[.pointer (some ⟨b, 0, none⟩), .string (bsT r)] w fun e w' => e = .returned (.tuple #[.int .i64 r.length, .nilIface]) ∧ BAt B b (L ++ r) w' ∧ Below B w w' := by
  have hB : B ≤ w.heap.size := Nat.le_trans h.le (Nat.le_of_lt h.lt)
  have hc := Any.Builder_WriteString (ρ := lays156_ren) { lays156 with } Builder_Extra_156 B b (Lib.byteCells L) (bsT r) w h (by rw [Lib.byteCells_length, bsT_size]; omega) hB
  refine (show Calls Tryd.prog 65 _ w _ from hc).mono ?_
  rintro e w' ⟨rfl, h1, h2⟩
  refine ⟨by rw [bsT_size], .inr ?_, h2⟩
  rw [Lib.strCells_eq, bsT_list, ← Lib.byteCells_append] at h1
  exact h1
theorem builtStr_any (B b : Nat) (L : List UInt8) (w : World) (h : BAt B b L w) :
    Calls Tryd.prog 67 #[.pointer (some ⟨b, 0, none⟩)] w fun e w' => e = .returned (.string (bsT L)) ∧ Below B w w' :=
  Builder_String_any B b L w h (Nat.le_trans h.le (Nat.le_of_lt h.lt))
/-! ### the model's numbers -/
end Go.Proofs.YthngnbaoaeomeaaDoor
