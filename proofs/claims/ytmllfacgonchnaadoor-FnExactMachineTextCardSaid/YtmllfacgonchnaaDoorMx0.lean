/- MachineText: lists. -/
import Derived.Test.YtmllfacgonchnaaDoorTx2
import Derived.Test.YtmllfacgonchnaaDoorTw
import Derived.Test.YtmllfacgonchnaaDoorBt0
import Derived.Test.YtmllfacgonchnaaDoorDv
namespace Go.Proofs.YtmllfacgonchnaaDoor
open Go.ChangeShapes Go.WideShapes Go.ChangeAt Go.RowKit Go.Joins Go.Deep
set_option linter.unusedVariables false
set_option linter.unusedSimpArgs false

def inWs (p : Po) : List (List UInt8) := [[105, 110], decL p.x, decL p.y, sideWL p.side]
def inLine (p : Po) : List UInt8 := lineL (inWs p)
def outWs (c : Cl) : List (List UInt8) := [[111, 117, 116], decL c.x, decL c.y]
def outLine (c : Cl) : List UInt8 := lineL (outWs c)
def mtL (wd hi : Int) (l : List Pc) (p : List Po) (c : List Cl) : List UInt8 := bdL wd hi l ++ p.flatMap inLine ++ c.flatMap outLine
def mxQ (R : Bool) (wd hi : Int) (l : List Pc) (p : List Po) (c : List Cl) : List UInt8 := if R = true then mtL wd hi l p c else []
def poIn (p : Po) : Prop := 0 ≤ p.x ∧ p.x ≤ 23 ∧ 0 ≤ p.y ∧ p.y ≤ 23 ∧ 0 ≤ p.side ∧ p.side ≤ 3
def clIn (c : Cl) : Prop := 0 ≤ c.x ∧ c.x ≤ 23 ∧ 0 ≤ c.y ∧ c.y ≤ 23
theorem mx_find (x y : Int) : ∀ (l : List Pc) (j : Int), findFrom x y l j = -1 ∨ ∃ p ∈ l, p.x = x ∧ p.y = y
  | [], _ => .inl rfl
  | p :: l, j => by
    unfold findFrom
    split
    · rename_i h
      exact .inr ⟨p, List.mem_cons_self .., h.1, h.2⟩
    · rcases mx_find x y l (j + 1) with h1 | ⟨q, hq, h2⟩
      · exact .inl h1
      · exact .inr ⟨q, List.mem_cons_of_mem _ hq, h2⟩
theorem mx_in {wd hi : Int} {l : List Pc} (hb : boardOk wd hi l = true) {x y : Int} (h : 0 ≤ findFrom x y l 0) : 0 ≤ x ∧ x ≤ 23 ∧ 0 ≤ y ∧ y ≤ 23 := by
  rcases mx_find x y l 0 with h1 | ⟨p, hp, rfl, rfl⟩
  · omega
  · have := pcIn_of hb hp
    unfold pcIn at this
    omega
theorem mx_told {lb : List Pc} : ∀ {l seen : List Po}, insOk lb seen l = true → ∀ q ∈ l, q.told lb = true
  | p :: l, seen, h, q, hq => by
    simp only [insOk, Bool.and_eq_true] at h
    rcases List.mem_cons.1 hq with rfl | hq
    · exact h.1.1
    · exact mx_told h.2 q hq
theorem mx_outs {lb : List Pc} : ∀ {l : List Cl}, outsOk lb l = true → ∀ q ∈ l, 0 ≤ findFrom q.x q.y lb 0
  | p :: l, h, q, hq => by
    simp only [outsOk, Bool.and_eq_true, decide_eq_true_eq] at h
    rcases List.mem_cons.1 hq with rfl | hq
    · exact h.1
    · exact mx_outs h.2 q hq
theorem mx_parts {wd hi : Int} {l : List Pc} {p : List Po} {c : List Cl} (h : machOk wd hi l p c = true) : boardOk wd hi l = true ∧ l.length ≤ 60 ∧ p.length ≤ 6 ∧ c.length ≤ 8 ∧ (∀ x ∈ p, poIn x) ∧ ∀ x ∈ c, clIn x := by
  unfold machOk countsOk at h
  simp only [Bool.and_eq_true, decide_eq_true_eq] at h
  refine ⟨h.1.1.1, h.1.1.2.1.1, h.1.1.2.1.2.2, h.1.1.2.2.2, fun x hx => ?_, fun x hx => ?_⟩
  · have h2 := mx_told h.1.2 x hx
    unfold Po.told at h2
    simp only [Bool.and_eq_true, decide_eq_true_eq] at h2
    have := mx_in h.1.1.1 h2.2
    unfold poIn
    omega
  · exact mx_in h.1.1.1 (mx_outs h.2 x hx)
theorem inLine_len {p : Po} (h : poIn p) : (inLine p).length ≤ 25 := by
  unfold poIn at h
  refine lineL_len (m := 5) (ws := inWs p) (fun x hx => ?_)
  simp only [inWs, List.mem_cons, List.not_mem_nil, or_false] at hx
  rcases hx with rfl | rfl | rfl | rfl
  · simp
  · have := decL_len2 (n := p.x) (by omega); omega
  · have := decL_len2 (n := p.y) (by omega); omega
  · exact sideWL_len _
theorem outLine_len {p : Cl} (h : clIn p) : (outLine p).length ≤ 19 := by
  unfold clIn at h
  refine lineL_len (m := 5) (ws := outWs p) (fun x hx => ?_)
  simp only [outWs, List.mem_cons, List.not_mem_nil, or_false] at hx
  rcases hx with rfl | rfl | rfl
  · simp
  · have := decL_len2 (n := p.x) (by omega); omega
  · have := decL_len2 (n := p.y) (by omega); omega
theorem ins_len : ∀ (r : List Po), (∀ p ∈ r, poIn p) → (r.flatMap inLine).length ≤ r.length * 25
  | [], _ => by simp
  | p :: r, h => by
    have h1 := ins_len r (fun q hq => h q (List.mem_cons_of_mem _ hq))
    have h2 := inLine_len (h p (List.mem_cons_self ..))
    rw [List.flatMap_cons, List.length_append, List.length_cons]
    omega
theorem outs_len : ∀ (r : List Cl), (∀ p ∈ r, clIn p) → (r.flatMap outLine).length ≤ r.length * 19
  | [], _ => by simp
  | p :: r, h => by
    have h1 := outs_len r (fun q hq => h q (List.mem_cons_of_mem _ hq))
    have h2 := outLine_len (h p (List.mem_cons_self ..))
    rw [List.flatMap_cons, List.length_append, List.length_cons]
    omega
theorem mtL_len {wd hi : Int} {l : List Pc} {p : List Po} {c : List Cl} (h : boardOk wd hi l = true) (h60 : l.length ≤ 60) (hp : p.length ≤ 6) (hc : c.length ≤ 8) (hpi : ∀ x ∈ p, poIn x) (hci : ∀ x ∈ c, clIn x) : (mtL wd hi l p c).length ≤ 4000 := by
  have hs := bd_sides h
  have h1 := bdL_len (wd := wd) (hi := hi) (by omega) (by omega) l (fun p hp => pcIn_of h hp)
  have h2 := ins_len p hpi
  have h3 := outs_len c hci
  unfold mtL
  rw [List.length_append, List.length_append]
  omega
theorem mtL_zero (wd hi : Int) (l : List Pc) (p : List Po) : mtL wd hi l (p.take 0) [] = bdL wd hi l := by simp [mtL]
theorem mtL_in (wd hi : Int) (l : List Pc) {p : List Po} {k : Nat} (h : k < p.length) : mtL wd hi l (p.take (k + 1)) [] = mtL wd hi l (p.take k) [] ++ inLine p[k] := by
  unfold mtL
  rw [List.take_succ_eq_append_getElem h, List.flatMap_append]
  simp
theorem mtL_out (wd hi : Int) (l : List Pc) (p : List Po) {c : List Cl} {k : Nat} (h : k < c.length) : mtL wd hi l p (c.take (k + 1)) = mtL wd hi l p (c.take k) ++ outLine c[k] := by
  unfold mtL
  rw [List.take_succ_eq_append_getElem h, List.flatMap_append]
  simp
theorem take_mem_in {α : Type} {P : α → Prop} {l : List α} (h : ∀ x ∈ l, P x) (k : Nat) : ∀ x ∈ l.take k, P x := fun x hx => h x (List.mem_of_mem_take hx)
end Go.Proofs.YtmllfacgonchnaaDoor
