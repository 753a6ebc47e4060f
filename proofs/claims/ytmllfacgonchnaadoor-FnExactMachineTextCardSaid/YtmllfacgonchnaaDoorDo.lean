/- A machine's device; ValidMachine, the program. -/
import Derived.Test.YtmllfacgonchnaaDoorDv
namespace Go.Proofs.YtmllfacgonchnaaDoor
open Go.ChangeShapes Go.WideShapes Go.ChangeAt Go.RowKit Go.Joins Go.Deep
set_option linter.unusedVariables false
set_option linter.unusedSimpArgs false

/-- what deviceOf answers -/
def DevPost (R : Bool) (wd hi : Int) (lb : List Pc) (vb vp vc : Value) (w : World) (e : Ending) (w' : World) : Prop :=
  (R = true → ∃ B, e = .returned (.tuple #[.agg #[.int .i8 wd, .int .i8 hi, .map (some B), .int .i8 wd, .int .i8 hi, vb, vp, vc], .bool true]) ∧ MapAt w' B lb) ∧
  (R = false → e = .returned (.tuple #[.agg #[.int .i8 0, .int .i8 0, .map none, .int .i8 0, .int .i8 0, .slice none 0 0, .slice none 0 0, .slice none 0 0], .bool false])) ∧ Below w.heap.size w w'
theorem MapAt.rowD {w : World} {B g : Nat} {l : List Pc} {cs : Array Value} (h : MapAt w B l) (hne : B ≠ g) : MapAt (w.setRow g cs) B l := by
  obtain ⟨es, c, h1, h2⟩ := h
  exact ⟨es, c, blk_row h1 hne, h2⟩
set_option maxRecDepth 100000 in
set_option maxHeartbeats 8000000 in
theorem deviceOf_any (b k q : Nat) (wd hi : Int) (l : List Pc) (p : List Po) (c : List Cl) (w : World) (hp : PcsAt w b 0 l) (hg : PosAt w k 0 p) (hj : ClsAt w q 0 c) (zb : b < w.heap.size) (zk : k < w.heap.size) (zq : q < w.heap.size)
    (h8 : All8 l) (hw : PosWf p) (m0 : l.length ≤ 1048576) (m1 : p.length ≤ 1048576) (m2 : c.length ≤ 1048576) (R : Bool) (hR : R = machOk wd hi l p c) :
    Calls Tryd.prog 98 #[.agg #[.int .i8 wd, .int .i8 hi, .slice (some ⟨b, 0, none⟩) l.length l.length, .slice (some ⟨k, 0, none⟩) p.length p.length, .slice (some ⟨q, 0, none⟩) c.length c.length]] w (DevPost R wd hi l (.slice (some ⟨b, 0, none⟩) l.length l.length) (.slice (some ⟨k, 0, none⟩) p.length p.length) (.slice (some ⟨q, 0, none⟩) c.length c.length) w) := by
  have bW : Below w.heap.size w ((w.alloc (.cells #[.int .i8 wd, .int .i8 hi, .slice (some ⟨b, 0, none⟩) l.length l.length, .slice (some ⟨k, 0, none⟩) p.length p.length, .slice (some ⟨q, 0, none⟩) c.length c.length] 73)).alloc (.cells #[.int .i8 0, .int .i8 0, .map none, .int .i8 0, .int .i8 0, .slice none 0 0, .slice none 0 0, .slice none 0 0] 172)) := by repeat (first | with_reducible exact Below.refl _ _ | (with_reducible refine kSet ?_ ?hB _; case hB => (simp; try omega)) | with_reducible refine kAlloc ?_ _ | with_reducible refine Below.drew ?_ | with_reducible refine kDrewN ?_ _ | with_reducible refine kTrans ?_ (by assumption))
  have rm : ((w.alloc (.cells #[.int .i8 wd, .int .i8 hi, .slice (some ⟨b, 0, none⟩) l.length l.length, .slice (some ⟨k, 0, none⟩) p.length p.length, .slice (some ⟨q, 0, none⟩) c.length c.length] 73)).alloc (.cells #[.int .i8 0, .int .i8 0, .map none, .int .i8 0, .int .i8 0, .slice none 0 0, .slice none 0 0, .slice none 0 0] 172)).heap[w.heap.size]? = some (.cells #[.int .i8 wd, .int .i8 hi, .slice (some ⟨b, 0, none⟩) l.length l.length, .slice (some ⟨k, 0, none⟩) p.length p.length, .slice (some ⟨q, 0, none⟩) c.length c.length] 73 (0, 0)) := mBlk_below (mNew w _) (kAlloc (Below.refl _ _) _)
  have rs : ((w.alloc (.cells #[.int .i8 wd, .int .i8 hi, .slice (some ⟨b, 0, none⟩) l.length l.length, .slice (some ⟨k, 0, none⟩) p.length p.length, .slice (some ⟨q, 0, none⟩) c.length c.length] 73)).alloc (.cells #[.int .i8 0, .int .i8 0, .map none, .int .i8 0, .int .i8 0, .slice none 0 0, .slice none 0 0, .slice none 0 0] 172)).heap[w.heap.size + 1]? = some (.cells #[.int .i8 0, .int .i8 0, .map none, .int .i8 0, .int .i8 0, .slice none 0 0, .slice none 0 0, .slice none 0 0] 172 (0, 0)) := by
    have := mNew (w.alloc (.cells #[.int .i8 wd, .int .i8 hi, .slice (some ⟨b, 0, none⟩) l.length l.length, .slice (some ⟨k, 0, none⟩) p.length p.length, .slice (some ⟨q, 0, none⟩) c.length c.length] 73)) (.cells #[.int .i8 0, .int .i8 0, .map none, .int .i8 0, .int .i8 0, .slice none 0 0, .slice none 0 0, .slice none 0 0] 172)
    simpa only [World.size_alloc] using this
  have sz : ((w.alloc (.cells #[.int .i8 wd, .int .i8 hi, .slice (some ⟨b, 0, none⟩) l.length l.length, .slice (some ⟨k, 0, none⟩) p.length p.length, .slice (some ⟨q, 0, none⟩) c.length c.length] 73)).alloc (.cells #[.int .i8 0, .int .i8 0, .map none, .int .i8 0, .int .i8 0, .slice none 0 0, .slice none 0 0, .slice none 0 0] 172)).heap.size = w.heap.size + 1 + 1 := by simp
  obtain ⟨Rb, hRb⟩ : ∃ Rb, Rb = boardOk wd hi l := ⟨_, rfl⟩
  have HR := Lib.hid hR
  have HW := Lib.hid hw
  go_enter Tryd.func98, Tryd.ntmps98
  go_wp2_with fail
  generalize (w.alloc (.cells #[.int .i8 wd, .int .i8 hi, .slice (some ⟨b, 0, none⟩) l.length l.length, .slice (some ⟨k, 0, none⟩) p.length p.length, .slice (some ⟨q, 0, none⟩) c.length c.length] 73)).alloc (.cells #[.int .i8 0, .int .i8 0, .map none, .int .i8 0, .int .i8 0, .slice none 0 0, .slice none 0 0, .slice none 0 0] 172) = W0 at *
  refine (layoutOf_any b 0 _ _ wd hi l _ rfl (hp.below bW zb) (Nat.lt_of_lt_of_le zb bW.size) (Nat.le_refl _) h8 m0 Rb hRb).mono ?_
  cases Rb with
  | false =>
    rintro e w1 ⟨_, h1, hb1⟩
    obtain rfl := h1 rfl
    obtain rfl : R = false := by rw [HR.out]; unfold machOk; rw [← hRb]; simp
    have T1 := kTrans bW hb1
    have rs1 := mBlk_below rs hb1
    have rm1 := mBlk_below rm hb1
    have hz1 : w.heap.size + 1 < w1.heap.size := by have := hb1.size; omega
    have hz1' : w.heap.size < w1.heap.size := by omega
    have c0 : w1.cell? ⟨w.heap.size, 0, none⟩ = some (.int .i8 wd) := cell_of_row _ _ 0 _ _ _ rm1
    have c1 : w1.cell? ⟨w.heap.size, 1, none⟩ = some (.int .i8 hi) := cell_of_row _ _ 1 _ _ _ rm1
    have c2 : w1.cell? ⟨w.heap.size, 2, none⟩ = some (.slice (some ⟨b, 0, none⟩) l.length l.length) := cell_of_row _ _ 2 _ _ _ rm1
    have c3 : w1.cell? ⟨w.heap.size, 3, none⟩ = some (.slice (some ⟨k, 0, none⟩) p.length p.length) := cell_of_row _ _ 3 _ _ _ rm1
    have c4 : w1.cell? ⟨w.heap.size, 4, none⟩ = some (.slice (some ⟨q, 0, none⟩) c.length c.length) := cell_of_row _ _ 4 _ _ _ rm1
    have rsb := mBlk_below rs1 (kAlloc (kAlloc (Below.refl _ _) (.cells #[.int .i8 0, .int .i8 0, .map none] 155)) (.cells #[.int .i8 0, .int .i8 0, .map none, .int .i8 wd, .int .i8 hi, .slice (some ⟨b, 0, none⟩) l.length l.length, .slice (some ⟨k, 0, none⟩) p.length p.length, .slice (some ⟨q, 0, none⟩) c.length c.length] 172))
    clear h1 hR hw hp hg hj bW rs rm sz hRb hb1 h8 rs1 rm1
    go_wp2_with (refine wpList_store_row rfl 172 _ _ rfl (w.heap.size + 1) #[.int .i8 0, .int .i8 0, .map none, .int .i8 0, .int .i8 0, .slice none 0 0, .slice none 0 0, .slice none 0 0] rfl rfl 172 _ rsb (by kernel_rfl) (by kernel_rfl) (by kernel_rfl) ?_)
    refine bodyPost_ret (v := .tuple #[.agg #[.int .i8 0, .int .i8 0, .map none, .int .i8 0, .int .i8 0, .slice none 0 0, .slice none 0 0, .slice none 0 0], .bool false]) (results_cell_tmp rfl _ _ (w.heap.size + 1) 172 #[.int .i8 0, .int .i8 0, .map none, .int .i8 0, .int .i8 0, .slice none 0 0, .slice none 0 0, .slice none 0 0] (0, 0) _ _ rfl rfl (setRow_heap _ _ _ _ _ _ rsb) Tryd.underlying172 rfl (by kernel_rfl)) rfl ?_
    exact ⟨(fun h => nomatch h), fun _ => rfl, kRowW (by repeat (first | with_reducible exact Below.refl _ _ | (with_reducible refine kSet ?_ ?hB _; case hB => (simp; try omega)) | with_reducible refine kAlloc ?_ _ | with_reducible refine Below.drew ?_ | with_reducible refine kDrewN ?_ _ | with_reducible refine kTrans ?_ (by assumption))) (by omega) _⟩
  | true =>
    rintro e w1 ⟨h1, _, hb1⟩
    obtain ⟨B, rfl, hmp⟩ := h1 rfl
    have T1 := kTrans bW hb1
    have rs1 := mBlk_below rs hb1
    have rm1 := mBlk_below rm hb1
    have hz1 : w.heap.size + 1 < w1.heap.size := by have := hb1.size; omega
    have hz1' : w.heap.size < w1.heap.size := by omega
    have c0 : w1.cell? ⟨w.heap.size, 0, none⟩ = some (.int .i8 wd) := cell_of_row _ _ 0 _ _ _ rm1
    have c1 : w1.cell? ⟨w.heap.size, 1, none⟩ = some (.int .i8 hi) := cell_of_row _ _ 1 _ _ _ rm1
    have c2 : w1.cell? ⟨w.heap.size, 2, none⟩ = some (.slice (some ⟨b, 0, none⟩) l.length l.length) := cell_of_row _ _ 2 _ _ _ rm1
    have c3 : w1.cell? ⟨w.heap.size, 3, none⟩ = some (.slice (some ⟨k, 0, none⟩) p.length p.length) := cell_of_row _ _ 3 _ _ _ rm1
    have c4 : w1.cell? ⟨w.heap.size, 4, none⟩ = some (.slice (some ⟨q, 0, none⟩) c.length c.length) := cell_of_row _ _ 4 _ _ _ rm1
    have hal : Below w1.heap.size w1 ((w1.alloc (.cells #[.int .i8 wd, .int .i8 hi, .map (some B)] 155)).alloc (.cells #[.int .i8 wd, .int .i8 hi, .map (some B), .int .i8 wd, .int .i8 hi, .slice (some ⟨b, 0, none⟩) l.length l.length, .slice (some ⟨k, 0, none⟩) p.length p.length, .slice (some ⟨q, 0, none⟩) c.length c.length] 172)) := by repeat (first | with_reducible exact Below.refl _ _ | (with_reducible refine kSet ?_ ?hB _; case hB => (simp; try omega)) | with_reducible refine kAlloc ?_ _ | with_reducible refine Below.drew ?_ | with_reducible refine kDrewN ?_ _ | with_reducible refine kTrans ?_ (by assumption))
    have T2 := kTrans T1 hal
    have rs2 := Lib.hid (mBlk_below rs1 hal)
    have dB : ((w1.alloc (.cells #[.int .i8 wd, .int .i8 hi, .map (some B)] 155)).alloc (.cells #[.int .i8 wd, .int .i8 hi, .map (some B), .int .i8 wd, .int .i8 hi, .slice (some ⟨b, 0, none⟩) l.length l.length, .slice (some ⟨k, 0, none⟩) p.length p.length, .slice (some ⟨q, 0, none⟩) c.length c.length] 172)).heap[w1.heap.size + 1]? = some (.cells #[.int .i8 wd, .int .i8 hi, .map (some B), .int .i8 wd, .int .i8 hi, .slice (some ⟨b, 0, none⟩) l.length l.length, .slice (some ⟨k, 0, none⟩) p.length p.length, .slice (some ⟨q, 0, none⟩) c.length c.length] 172 (0, 0)) := by
      have := mNew (w1.alloc (.cells #[.int .i8 wd, .int .i8 hi, .map (some B)] 155)) (.cells #[.int .i8 wd, .int .i8 hi, .map (some B), .int .i8 wd, .int .i8 hi, .slice (some ⟨b, 0, none⟩) l.length l.length, .slice (some ⟨k, 0, none⟩) p.length p.length, .slice (some ⟨q, 0, none⟩) c.length c.length] 172)
      simpa only [World.size_alloc] using this
    have d2 := Lib.hid dB
    have qm2 := Lib.hid (hmp.below hal)
    have sz2 : ((w1.alloc (.cells #[.int .i8 wd, .int .i8 hi, .map (some B)] 155)).alloc (.cells #[.int .i8 wd, .int .i8 hi, .map (some B), .int .i8 wd, .int .i8 hi, .slice (some ⟨b, 0, none⟩) l.length l.length, .slice (some ⟨k, 0, none⟩) p.length p.length, .slice (some ⟨q, 0, none⟩) c.length c.length] 172)).heap.size = w1.heap.size + 1 + 1 := by simp
    have HG := Lib.hid (fun W (hW : Below w.heap.size w W) => hg.below hW zk)
    have HJ := Lib.hid (fun W (hW : Below w.heap.size w W) => hj.below hW zq)
    obtain ⟨C, hC⟩ : ∃ C, C = countsOk l.length p.length c.length := ⟨_, rfl⟩
    obtain ⟨I, hI⟩ : ∃ I, insOk l [] p = I := ⟨_, rfl⟩
    obtain ⟨O, hO⟩ : ∃ O, outsOk l c = O := ⟨_, rfl⟩
    have HC := Lib.hid hC
    have HI := Lib.hid hI
    have HO := Lib.hid hO
    have HF : Hid (R = (C && I && O)) := Lib.hid (by rw [HR.out]; unfold machOk; rw [← hRb, ← hC, hI, hO]; simp)
    clear h1 hR hw hp hg hj bW rs rm sz hRb hb1 h8 rs1 rm1 hmp hC hI hO T1 dB
    go_wp2_with fail
    generalize (w1.alloc (.cells #[.int .i8 wd, .int .i8 hi, .map (some B)] 155)).alloc (.cells #[.int .i8 wd, .int .i8 hi, .map (some B), .int .i8 wd, .int .i8 hi, .slice (some ⟨b, 0, none⟩) l.length l.length, .slice (some ⟨k, 0, none⟩) p.length p.length, .slice (some ⟨q, 0, none⟩) c.length c.length] 172) = w2 at *
    clear hal c0 c1 c2 c3 c4
    refine (goodCounts_any B wd hi _ _ _ _ _ _ _ _ _ _ m0 m1 m2 C HC.out).mono ?_
    rintro e w3 ⟨rfl, hb3⟩
    have T3 := kTrans T2 hb3
    have rs3 := Lib.hid (mBlk_below rs2.out hb3)
    have d3 := Lib.hid (mBlk_below d2.out hb3)
    have qm3 := Lib.hid (qm2.out.below hb3)
    have sz3 : w1.heap.size + 1 < w3.heap.size := by have := hb3.size; omega
    have dl : w1.heap.size + 1 + 1 ≤ w3.heap.size := by omega
    clear rs2 d2 qm2 T2 hb3 sz2
    cases C with
    | false =>
      obtain rfl : R = false := by rw [HF.out]; simp
      go_wp2_with (refine wpList_store_row rfl 172 _ _ rfl (w.heap.size + 1) #[.int .i8 0, .int .i8 0, .map none, .int .i8 0, .int .i8 0, .slice none 0 0, .slice none 0 0, .slice none 0 0] rfl rfl 172 _ rs3.out (by kernel_rfl) (by kernel_rfl) (by kernel_rfl) ?_)
      refine bodyPost_ret (v := .tuple #[.agg #[.int .i8 0, .int .i8 0, .map none, .int .i8 0, .int .i8 0, .slice none 0 0, .slice none 0 0, .slice none 0 0], .bool false]) (results_cell_tmp rfl _ _ (w.heap.size + 1) 172 #[.int .i8 0, .int .i8 0, .map none, .int .i8 0, .int .i8 0, .slice none 0 0, .slice none 0 0, .slice none 0 0] (0, 0) _ _ rfl rfl (setRow_heap _ _ _ _ _ _ rs3.out) Tryd.underlying172 rfl (by kernel_rfl)) rfl ?_
      exact ⟨(fun h => nomatch h), fun _ => rfl, kRowW T3 (by omega) _⟩
    | true =>
      have x0 : w3.cell? ⟨w1.heap.size + 1, 0, none⟩ = some (.int .i8 wd) := cell_of_row _ _ 0 _ _ _ d3.out
      have x1 : w3.cell? ⟨w1.heap.size + 1, 1, none⟩ = some (.int .i8 hi) := cell_of_row _ _ 1 _ _ _ d3.out
      have x2 : w3.cell? ⟨w1.heap.size + 1, 2, none⟩ = some (.map (some B)) := cell_of_row _ _ 2 _ _ _ d3.out
      have x3 : w3.cell? ⟨w1.heap.size + 1, 3, none⟩ = some (.int .i8 wd) := cell_of_row _ _ 3 _ _ _ d3.out
      have x4 : w3.cell? ⟨w1.heap.size + 1, 4, none⟩ = some (.int .i8 hi) := cell_of_row _ _ 4 _ _ _ d3.out
      have x5 : w3.cell? ⟨w1.heap.size + 1, 5, none⟩ = some (.slice (some ⟨b, 0, none⟩) l.length l.length) := cell_of_row _ _ 5 _ _ _ d3.out
      have x6 : w3.cell? ⟨w1.heap.size + 1, 6, none⟩ = some (.slice (some ⟨k, 0, none⟩) p.length p.length) := cell_of_row _ _ 6 _ _ _ d3.out
      have x7 : w3.cell? ⟨w1.heap.size + 1, 7, none⟩ = some (.slice (some ⟨q, 0, none⟩) c.length c.length) := cell_of_row _ _ 7 _ _ _ d3.out
      go_wp2_with fail
      refine (goodInputs_any B k wd hi _ _ _ _ _ _ _ l p _ rfl (HG.out _ T3) (Nat.lt_of_lt_of_le zk T3.size) HW.out qm3.out m1 I HI.out).mono ?_
      rintro e w4 ⟨rfl, hb4⟩
      have T4 := kTrans T3 hb4
      have rs4 := Lib.hid (mBlk_below rs3.out hb4)
      have d4 := Lib.hid (mBlk_below d3.out hb4)
      have qm4 := Lib.hid (qm3.out.below hb4)
      have sz4 : w1.heap.size + 1 < w4.heap.size := by have := hb4.size; omega
      clear rs3 d3 qm3 T3 hb4 sz3 x0 x1 x2 x3 x4 x5 x6 x7 dl
      cases I with
      | false =>
        obtain rfl : R = false := by rw [HF.out]; simp
        go_wp2_with (refine wpList_store_row rfl 172 _ _ rfl (w.heap.size + 1) #[.int .i8 0, .int .i8 0, .map none, .int .i8 0, .int .i8 0, .slice none 0 0, .slice none 0 0, .slice none 0 0] rfl rfl 172 _ rs4.out (by kernel_rfl) (by kernel_rfl) (by kernel_rfl) ?_)
        refine bodyPost_ret (v := .tuple #[.agg #[.int .i8 0, .int .i8 0, .map none, .int .i8 0, .int .i8 0, .slice none 0 0, .slice none 0 0, .slice none 0 0], .bool false]) (results_cell_tmp rfl _ _ (w.heap.size + 1) 172 #[.int .i8 0, .int .i8 0, .map none, .int .i8 0, .int .i8 0, .slice none 0 0, .slice none 0 0, .slice none 0 0] (0, 0) _ _ rfl rfl (setRow_heap _ _ _ _ _ _ rs4.out) Tryd.underlying172 rfl (by kernel_rfl)) rfl ?_
        exact ⟨(fun h => nomatch h), fun _ => rfl, kRowW T4 (by omega) _⟩
      | true =>
        have x0 : w4.cell? ⟨w1.heap.size + 1, 0, none⟩ = some (.int .i8 wd) := cell_of_row _ _ 0 _ _ _ d4.out
        have x1 : w4.cell? ⟨w1.heap.size + 1, 1, none⟩ = some (.int .i8 hi) := cell_of_row _ _ 1 _ _ _ d4.out
        have x2 : w4.cell? ⟨w1.heap.size + 1, 2, none⟩ = some (.map (some B)) := cell_of_row _ _ 2 _ _ _ d4.out
        have x3 : w4.cell? ⟨w1.heap.size + 1, 3, none⟩ = some (.int .i8 wd) := cell_of_row _ _ 3 _ _ _ d4.out
        have x4 : w4.cell? ⟨w1.heap.size + 1, 4, none⟩ = some (.int .i8 hi) := cell_of_row _ _ 4 _ _ _ d4.out
        have x5 : w4.cell? ⟨w1.heap.size + 1, 5, none⟩ = some (.slice (some ⟨b, 0, none⟩) l.length l.length) := cell_of_row _ _ 5 _ _ _ d4.out
        have x6 : w4.cell? ⟨w1.heap.size + 1, 6, none⟩ = some (.slice (some ⟨k, 0, none⟩) p.length p.length) := cell_of_row _ _ 6 _ _ _ d4.out
        have x7 : w4.cell? ⟨w1.heap.size + 1, 7, none⟩ = some (.slice (some ⟨q, 0, none⟩) c.length c.length) := cell_of_row _ _ 7 _ _ _ d4.out
        go_wp2_with fail
        refine (goodOutputs_any B q wd hi _ _ _ _ _ _ _ l c _ rfl (HJ.out _ T4) (Nat.lt_of_lt_of_le zq T4.size) qm4.out m2 O HO.out).mono ?_
        rintro e w5 ⟨rfl, hb5⟩
        have T5 := kTrans T4 hb5
        have rs5 := Lib.hid (mBlk_below rs4.out hb5)
        have d5 := Lib.hid (mBlk_below d4.out hb5)
        have qm5 := Lib.hid (qm4.out.below hb5)
        have sz5 : w1.heap.size + 1 < w5.heap.size := by have := hb5.size; omega
        clear rs4 d4 qm4 T4 hb5 sz4 x0 x1 x2 x3 x4 x5 x6 x7
        cases O with
        | false =>
          obtain rfl : R = false := by rw [HF.out]; simp
          go_wp2_with (refine wpList_store_row rfl 172 _ _ rfl (w.heap.size + 1) #[.int .i8 0, .int .i8 0, .map none, .int .i8 0, .int .i8 0, .slice none 0 0, .slice none 0 0, .slice none 0 0] rfl rfl 172 _ rs5.out (by kernel_rfl) (by kernel_rfl) (by kernel_rfl) ?_)
          refine bodyPost_ret (v := .tuple #[.agg #[.int .i8 0, .int .i8 0, .map none, .int .i8 0, .int .i8 0, .slice none 0 0, .slice none 0 0, .slice none 0 0], .bool false]) (results_cell_tmp rfl _ _ (w.heap.size + 1) 172 #[.int .i8 0, .int .i8 0, .map none, .int .i8 0, .int .i8 0, .slice none 0 0, .slice none 0 0, .slice none 0 0] (0, 0) _ _ rfl rfl (setRow_heap _ _ _ _ _ _ rs5.out) Tryd.underlying172 rfl (by kernel_rfl)) rfl ?_
          exact ⟨(fun h => nomatch h), fun _ => rfl, kRowW T5 (by omega) _⟩
        | true =>
          obtain rfl : R = true := by rw [HF.out]; simp
          have x0 : w5.cell? ⟨w1.heap.size + 1, 0, none⟩ = some (.int .i8 wd) := cell_of_row _ _ 0 _ _ _ d5.out
          have x1 : w5.cell? ⟨w1.heap.size + 1, 1, none⟩ = some (.int .i8 hi) := cell_of_row _ _ 1 _ _ _ d5.out
          have x2 : w5.cell? ⟨w1.heap.size + 1, 2, none⟩ = some (.map (some B)) := cell_of_row _ _ 2 _ _ _ d5.out
          have x3 : w5.cell? ⟨w1.heap.size + 1, 3, none⟩ = some (.int .i8 wd) := cell_of_row _ _ 3 _ _ _ d5.out
          have x4 : w5.cell? ⟨w1.heap.size + 1, 4, none⟩ = some (.int .i8 hi) := cell_of_row _ _ 4 _ _ _ d5.out
          have x5 : w5.cell? ⟨w1.heap.size + 1, 5, none⟩ = some (.slice (some ⟨b, 0, none⟩) l.length l.length) := cell_of_row _ _ 5 _ _ _ d5.out
          have x6 : w5.cell? ⟨w1.heap.size + 1, 6, none⟩ = some (.slice (some ⟨k, 0, none⟩) p.length p.length) := cell_of_row _ _ 6 _ _ _ d5.out
          have x7 : w5.cell? ⟨w1.heap.size + 1, 7, none⟩ = some (.slice (some ⟨q, 0, none⟩) c.length c.length) := cell_of_row _ _ 7 _ _ _ d5.out
          have hne : B ≠ w.heap.size + 1 := by
            obtain ⟨es, c, hm1, _⟩ := qm5.out
            intro e
            rw [e, rs5.out] at hm1
            cases hm1
          go_wp2_with (refine wpList_store_row rfl 172 _ _ rfl (w.heap.size + 1) #[.int .i8 wd, .int .i8 hi, .map (some B), .int .i8 wd, .int .i8 hi, .slice (some ⟨b, 0, none⟩) l.length l.length, .slice (some ⟨k, 0, none⟩) p.length p.length, .slice (some ⟨q, 0, none⟩) c.length c.length] rfl rfl 172 _ rs5.out (by kernel_rfl) (by kernel_rfl) (by kernel_rfl) ?_)
          refine bodyPost_ret (v := .tuple #[.agg #[.int .i8 wd, .int .i8 hi, .map (some B), .int .i8 wd, .int .i8 hi, .slice (some ⟨b, 0, none⟩) l.length l.length, .slice (some ⟨k, 0, none⟩) p.length p.length, .slice (some ⟨q, 0, none⟩) c.length c.length], .bool true]) (results_cell_tmp rfl _ _ (w.heap.size + 1) 172 #[.int .i8 wd, .int .i8 hi, .map (some B), .int .i8 wd, .int .i8 hi, .slice (some ⟨b, 0, none⟩) l.length l.length, .slice (some ⟨k, 0, none⟩) p.length p.length, .slice (some ⟨q, 0, none⟩) c.length c.length] (0, 0) _ _ rfl rfl (setRow_heap _ _ _ _ _ _ rs5.out) Tryd.underlying172 rfl (by kernel_rfl)) rfl ?_
          exact ⟨fun _ => ⟨B, rfl, qm5.out.rowD hne⟩, (fun h => nomatch h), kRowW T5 (by omega) _⟩
set_option maxRecDepth 100000 in
set_option maxHeartbeats 4000000 in
theorem implValidMachine_any (b k q : Nat) (wd hi : Int) (l : List Pc) (p : List Po) (c : List Cl) (w : World) (hp : PcsAt w b 0 l) (hg : PosAt w k 0 p) (hj : ClsAt w q 0 c) (zb : b < w.heap.size) (zk : k < w.heap.size) (zq : q < w.heap.size)
    (h8 : All8 l) (hw : PosWf p) (m0 : l.length ≤ 1048576) (m1 : p.length ≤ 1048576) (m2 : c.length ≤ 1048576) (R : Bool) (hR : R = machOk wd hi l p c) :
    Calls Tryd.prog 75 #[.agg #[.int .i8 wd, .int .i8 hi, .slice (some ⟨b, 0, none⟩) l.length l.length, .slice (some ⟨k, 0, none⟩) p.length p.length, .slice (some ⟨q, 0, none⟩) c.length c.length]] w fun e w' => e = .returned (.bool R) ∧ Below w.heap.size w w' := by
  have ka : Below w.heap.size w (w.alloc (.cells #[.int .i8 wd, .int .i8 hi, .slice (some ⟨b, 0, none⟩) l.length l.length, .slice (some ⟨k, 0, none⟩) p.length p.length, .slice (some ⟨q, 0, none⟩) c.length c.length] 73)) := by repeat (first | with_reducible exact Below.refl _ _ | (with_reducible refine kSet ?_ ?hB _; case hB => (simp; try omega)) | with_reducible refine kAlloc ?_ _ | with_reducible refine Below.drew ?_ | with_reducible refine kDrewN ?_ _ | with_reducible refine kTrans ?_ (by assumption))
  have H := Lib.hid (deviceOf_any b k q wd hi l p c _ (hp.below ka zb) (hg.below ka zk) (hj.below ka zq) (Nat.lt_of_lt_of_le zb ka.size) (Nat.lt_of_lt_of_le zk ka.size) (Nat.lt_of_lt_of_le zq ka.size) h8 hw m0 m1 m2 R hR)
  clear hp hg hj h8 hw hR
  go_enter Tryd.func75, Tryd.ntmps75
  go_wp2_with fail
  refine H.out.mono ?_
  cases R with
  | false =>
    rintro e w1 ⟨_, h1, hb1⟩
    obtain rfl := h1 rfl
    have T := kTrans ka hb1
    clear H h1 hb1
    go_wp2
    go_ret
    exact ⟨rfl, by repeat (first | with_reducible exact Below.refl _ _ | (with_reducible refine kSet ?_ ?hB _; case hB => (simp; try omega)) | with_reducible refine kAlloc ?_ _ | with_reducible refine Below.drew ?_ | with_reducible refine kDrewN ?_ _ | with_reducible refine kTrans ?_ (by assumption))⟩
  | true =>
    rintro e w1 ⟨h1, _, hb1⟩
    obtain ⟨B, rfl, _⟩ := h1 rfl
    have T := kTrans ka hb1
    clear H h1 hb1
    go_wp2
    go_ret
    exact ⟨rfl, by repeat (first | with_reducible exact Below.refl _ _ | (with_reducible refine kSet ?_ ?hB _; case hB => (simp; try omega)) | with_reducible refine kAlloc ?_ _ | with_reducible refine Below.drew ?_ | with_reducible refine kDrewN ?_ _ | with_reducible refine kTrans ?_ (by assumption))⟩
end Go.Proofs.YtmllfacgonchnaaDoor
