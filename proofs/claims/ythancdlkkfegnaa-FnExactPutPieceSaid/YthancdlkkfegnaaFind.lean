/- The model's search for the piece in a cell. -/
import Derived.Test.YthancdlkkfegnaaCe
namespace Go.Proofs.Ythancdlkkfegnaa
open Go.ChangeShapes Go.WideShapes Go.ChangeAt Go.RowKit
set_option linter.unusedVariables false

/-- the index of the first piece in a cell, counted from i on; -1 if there is none -/
def findFrom (x y : Int) : List Pc → Int → Int
  | [], _ => -1
  | p :: l, i => if p.x = x ∧ p.y = y then i else findFrom x y l (i + 1)

/-- the cells of a board behind a pointer -/
def BdAt (w : World) (b o : Nat) (wd hi : Int) (v : Value) : Prop :=
  w.cell? ⟨b, o, none⟩ = some (.int .i8 wd) ∧ w.cell? ⟨b, o + 1, none⟩ = some (.int .i8 hi) ∧ w.cell? ⟨b, o + 2, none⟩ = some v
theorem BdAt.below {W w' : World} {b o : Nat} {wd hi : Int} {v : Value} (h : BdAt W b o wd hi v) (hb : Below W.heap.size W w') (hl : b < W.heap.size) : BdAt w' b o wd hi v :=
  ⟨(hb.cell (p := ⟨b, _, none⟩) hl).trans h.1, (hb.cell (p := ⟨b, _, none⟩) hl).trans h.2.1, (hb.cell (p := ⟨b, _, none⟩) hl).trans h.2.2⟩
theorem BdAt.lt {w : World} {b o : Nat} {wd hi : Int} {v : Value} (h : BdAt w b o wd hi v) : b < w.heap.size := World.block_lt_of_cell? w _ h.1

set_option maxRecDepth 100000 in
set_option maxHeartbeats 2000000 in
theorem l01Find_any (bb bo b o n cap : Nat) (wd hi x y : Int) (l : List Pc) (w : World) (hn : l.length = n) (hbd : BdAt w bb bo wd hi (.slice (some ⟨b, o, none⟩) n cap)) (hp : PcsAt w b o l) (hb : b < w.heap.size) (hc : n ≤ cap) (hmax : n ≤ 1048576) :
    Calls Try.prog 72 #[.pointer (some ⟨bb, bo, none⟩), .agg #[.int .i8 x, .int .i8 y]] w fun e w' => e = .returned (.int .i64 (findFrom x y l 0)) ∧ Below w.heap.size w w' := by
  have Hn := Lib.hid hn
  have hbb := hbd.lt
  obtain ⟨R, hR⟩ : ∃ R, R = findFrom x y l 0 := ⟨_, rfl⟩
  rw [← hR]
  have hR0 : findFrom x y (l.drop 0) ((0 : Nat) : Int) = R := by rw [hR]; rfl
  have HR := Lib.hid hR0
  clear hn hR hR0
  have hk0 : Below w.heap.size w (w.alloc (.cells #[.int .i8 x, .int .i8 y] 38)) := by repeat (first | with_reducible exact Below.refl _ _ | (with_reducible refine kSet ?_ ?hB _; case hB => (simp; try omega)) | with_reducible refine kAlloc ?_ _ | with_reducible refine Below.drew ?_ | with_reducible refine kDrewN ?_ _ | with_reducible refine kTrans ?_ (by assumption))
  have hbd0 := hbd.below hk0 hbb
  have hp0 := hp.below hk0 hb
  obtain ⟨q0, q1, q2⟩ := hbd0
  clear hbd hp
  go_enter Try.func72, Try.ntmps72
  go_wp2
  go_loopw [5] (fun i wr => ∃ k : Nat, k ≤ n ∧ i = .int .i64 k ∧ Hid (findFrom x y (l.drop k) k = R) ∧ Below (w.alloc (.cells #[.int .i8 x, .int .i8 y] 38)).heap.size (w.alloc (.cells #[.int .i8 x, .int .i8 y] 38)) wr) (fun i _ => n - (intOf i).toNat)
  case atStart => exact ⟨0, by omega, rfl, HR, Below.refl _ _⟩
  case round =>
    obtain ⟨k, hk, rfl, hf, hbr⟩ := hrel
    have hq : BdAt wr bb bo wd hi (.slice (some ⟨b, o, none⟩) n cap) := BdAt.below ⟨q0, q1, q2⟩ hbr (by simp; omega)
    have x0 : wr.cell? ⟨w.heap.size, 0, none⟩ = some (.int .i8 x) := (hbr.cell (p := ⟨w.heap.size, 0, none⟩) (by simp)).trans (by simp)
    have x1 : wr.cell? ⟨w.heap.size, 1, none⟩ = some (.int .i8 y) := (hbr.cell (p := ⟨w.heap.size, 1, none⟩) (by simp)).trans (by simp)
    clear q0 q1 q2
    obtain ⟨q0, q1, q2⟩ := hq
    by_cases hlt : k < n
    · have hlk : k < l.length := by rw [Hn.out]; exact hlt
      obtain ⟨a0, a1, a2, a3, a4⟩ := (hp0.below hbr (by simp; omega)) k hlk
      have hd : l.drop k = l[k] :: l.drop (k + 1) := List.drop_eq_getElem_cons hlk
      generalize l[k] = p at hd a0 a1 a2 a3 a4
      have Hd := Lib.hid hd
      clear hp0 hd
      by_cases hx : p.x = x ∧ p.y = y
      · obtain ⟨e1, e2⟩ := hx
        have hR : R = k := by rw [← hf.out, Hd.out]; simp [findFrom, e1, e2]
        have HR2 := Lib.hid hR
        have he : ∀ w2, (Op.equalIn 10000 38 (.agg #[.int .i8 p.x, .int .i8 p.y]) (.agg #[.int .i8 x, .int .i8 y])).run Try.prog w2 = .ok true w2 := fun w2 => by rw [cellEq_any, e1, e2]; simp
        have hgm : Try.prog.eqGuardType Try.prog.depth 38 = false := by kernel_rfl
        clear hR hf HR e1 e2
        go_wp2
        go_quiet (fail)
        go_wp2
        go_ret
        exact ⟨ret_int HR2.out.symm, by repeat (first | with_reducible exact Below.refl _ _ | (with_reducible refine kSet ?_ ?hB _; case hB => (simp; try omega)) | with_reducible refine kAlloc ?_ _ | with_reducible refine Below.drew ?_ | with_reducible refine kDrewN ?_ _ | with_reducible refine kTrans ?_ (by assumption))⟩
      · have hR : findFrom x y (l.drop (k + 1)) ((k + 1 : Nat) : Int) = R := by rw [← hf.out, Hd.out]; simp [findFrom, hx]
        have HR2 := Lib.hid hR
        have he : ∀ w2, (Op.equalIn 10000 38 (.agg #[.int .i8 p.x, .int .i8 p.y]) (.agg #[.int .i8 x, .int .i8 y])).run Try.prog w2 = .ok false w2 := fun w2 => by
          rw [cellEq_any]; simp only [Result.ok.injEq, and_true]; simpa using hx
        have hgm : Try.prog.eqGuardType Try.prog.depth 38 = false := by kernel_rfl
        clear hR hf HR hx
        go_wp2
        go_quiet (fail)
        go_wp2
        exact ⟨⟨k + 1, by omega, by go_num, HR2, kDrewN hbr _⟩, by simp [intOf]; omega⟩
    · have hR : R = -1 := by
        rw [← hf.out, List.drop_of_length_le (by rw [Hn.out]; omega)]; rfl
      have HR2 := Lib.hid hR
      clear hR hf HR hp0
      go_wp2
      go_ret
      exact ⟨ret_int HR2.out.symm, by repeat (first | with_reducible exact Below.refl _ _ | (with_reducible refine kSet ?_ ?hB _; case hB => (simp; try omega)) | with_reducible refine kAlloc ?_ _ | with_reducible refine Below.drew ?_ | with_reducible refine kDrewN ?_ _ | with_reducible refine kTrans ?_ (by assumption))⟩
end Go.Proofs.Ythancdlkkfegnaa
