/- A device with the inputs' late: lateDevice. -/
import Derived.Test.YtaapdjidiahmpaaGreatDoorDo
import Derived.Test.YtaapdjidiahmpaaGreatDoorBi
import Derived.Test.YtaapdjidiahmpaaGreatDoorIn
namespace Go.Proofs.YtaapdjidiahmpaaGreatDoor
open Go.ChangeShapes Go.WideShapes Go.ChangeAt Go.RowKit Go.Joins Go.Deep
set_option linter.unusedVariables false
set_option linter.unusedSimpArgs false

def lateAll (t : List Int) : Bool := t.all fun x => decide (0 ≤ x ∧ x ≤ 100)
/-- row and late are as a machine of n inputs asks -/
def rowOk (n : Nat) (row : Int) (t : List Int) : Bool := decide (0 ≤ row ∧ row < 2 ^ n) && decide (t.length = n) && lateAll t
def askedC (M O : Bool) : Int := match M, O with | false, _ => 1 | true, false => 2 | true, true => 0
/-- a result in a box, and two in slots -/
theorem results_cell_tmp2 {P : Program} {fn : Func} {p q r : Tmp} {ty : TypeId} (h : fn.results = #[.cell p ty, .tmp q, .tmp r]) (tmps : Array Value) (w : World) (g : Nat) (t : TypeId) (cs : Array Value) (fr : Nat × Nat) (d : TypeDesc) (v u : Value)
    (hp : tmps.getD p undef = .pointer (some ⟨g, 0, none⟩)) (hq : tmps.getD q undef = v) (hr : tmps.getD r undef = u) (hg : w.heap[g]? = some (.cells cs t fr))
    (hu : P.underlying ty = some d) (hd : (match d with | .struct _ | .array _ _ => true | _ => false) = true) (hi : (P.info? ty).map (·.size) = some cs.size) :
    (results fn tmps).run P w = .ok (.tuple #[.agg cs, v, u]) w := by
  have hp' : tmps[p]?.getD undef = .pointer (some ⟨g, 0, none⟩) := by simpa using hp
  have hq' : tmps[q]?.getD undef = v := by simpa using hq
  have hr' : tmps[r]?.getD undef = u := by simpa using hr
  simp [results, h, hp', hq', hr', asAddr, run_loadVar_row w g t ty cs fr d hg hu hd hi]
set_option maxRecDepth 100000 in
set_option maxHeartbeats 2000000 in
theorem hasRow_any (B : Nat) (wd hi row : Int) (a0 a1 a2 : Option Addr) (n0 n1 n2 d0 d1 d2 : Nat) (w : World) (hn : n1 ≤ 6) (R : Bool) (hR : R = decide (0 ≤ row ∧ row < 2 ^ n1)) :
    Calls Tryz.prog 78 #[.agg #[.int .i8 wd, .int .i8 hi, .map (some B), .int .i8 wd, .int .i8 hi, .slice a0 n0 d0, .slice a1 n1 d1, .slice a2 n2 d2], .int .i64 row] w fun e w' => e = .returned (.bool R) ∧ Below w.heap.size w w' := by
  have H := Lib.hid (fun w => isBelowPower_any row n1 w hn R hR)
  clear hR
  go_enter Tryz.func78, Tryz.ntmps78
  go_wp2_with fail
  refine (H.out _).mono ?_
  rintro e w1 ⟨rfl, rfl⟩
  go_wp2
  go_ret
  exact ⟨rfl, by repeat (first | with_reducible exact Below.refl _ _ | (with_reducible refine kSet ?_ ?hB _; case hB => (simp; try omega)) | with_reducible refine kAlloc ?_ _ | with_reducible refine Below.drew ?_ | with_reducible refine kDrewN ?_ _ | with_reducible refine kTrans ?_ (by assumption))⟩
set_option maxHeartbeats 1000000 in
theorem lateTold_any (gb g i : Nat) (t : List Int) (w : World) (hc : w.cell? ⟨gb, 0, none⟩ = some (.slice (some ⟨g, 0, none⟩) t.length t.length)) (ht : InsAt w g 0 t) (hi : i < t.length) (hm : t.length ≤ 1048576) :
    Calls Tryz.prog 89 #[.int .i64 i, .pointer (some ⟨gb, 0, none⟩)] w fun e w' => e = .returned (.int .i64 t[i]) ∧ w = w' := by
  have h0 := ht i hi
  generalize t[i] = x at h0
  simp only [Nat.zero_add] at h0
  clear ht
  go_enter Tryz.func89, Tryz.ntmps89
  go_wp2
  go_ret
  exact ⟨rfl, rfl⟩
/-- what lateDevice answers -/
def LatePost (M O : Bool) (wd hi : Int) (lb : List Pc) (vb vp vc vl : Value) (w : World) (e : Ending) (w' : World) : Prop :=
  (M = true → O = true → ∃ B gb, e = .returned (.tuple #[.agg #[.int .i8 wd, .int .i8 hi, .map (some B), .int .i8 wd, .int .i8 hi, vb, vp, vc], .func (.func 89) #[] #[.pointer (some ⟨gb, 0, none⟩)], .int .i64 0]) ∧ MapAt w' B lb ∧ w'.cell? ⟨gb, 0, none⟩ = some vl ∧ w.heap.size ≤ gb) ∧
  ((M && O) = false → e = .returned (.tuple #[.agg #[.int .i8 0, .int .i8 0, .map none, .int .i8 0, .int .i8 0, .slice none 0 0, .slice none 0 0, .slice none 0 0], .nilFunc, .int .i64 (askedC M O)])) ∧ Below w.heap.size w w'
set_option maxRecDepth 100000 in
set_option maxHeartbeats 8000000 in
theorem lateDevice_any (b k q g : Nat) (wd hi row : Int) (l : List Pc) (p : List Po) (c : List Cl) (t : List Int) (w : World) (hp : PcsAt w b 0 l) (hg : PosAt w k 0 p) (hj : ClsAt w q 0 c) (ht : InsAt w g 0 t) (zb : b < w.heap.size) (zk : k < w.heap.size) (zq : q < w.heap.size) (zg : g < w.heap.size)
    (h8 : All8 l) (hw : PosWf p) (m0 : l.length ≤ 1048576) (m1 : p.length ≤ 1048576) (m2 : c.length ≤ 1048576) (m3 : t.length ≤ 1048576) (M O : Bool) (hM : M = machOk wd hi l p c) (hO : O = rowOk p.length row t) :
    Calls Tryz.prog 52 #[.agg #[.int .i8 wd, .int .i8 hi, .slice (some ⟨b, 0, none⟩) l.length l.length, .slice (some ⟨k, 0, none⟩) p.length p.length, .slice (some ⟨q, 0, none⟩) c.length c.length], .int .i64 row, .slice (some ⟨g, 0, none⟩) t.length t.length] w (LatePost M O wd hi l (.slice (some ⟨b, 0, none⟩) l.length l.length) (.slice (some ⟨k, 0, none⟩) p.length p.length) (.slice (some ⟨q, 0, none⟩) c.length c.length) (.slice (some ⟨g, 0, none⟩) t.length t.length) w) := by
  have bW : Below w.heap.size w (((w.alloc (.cells #[.int .i8 wd, .int .i8 hi, .slice (some ⟨b, 0, none⟩) l.length l.length, .slice (some ⟨k, 0, none⟩) p.length p.length, .slice (some ⟨q, 0, none⟩) c.length c.length] 40)).alloc (.cells #[.slice (some ⟨g, 0, none⟩) t.length t.length] 30)).alloc (.cells #[.int .i8 0, .int .i8 0, .map none, .int .i8 0, .int .i8 0, .slice none 0 0, .slice none 0 0, .slice none 0 0] 84)) := by repeat (first | with_reducible exact Below.refl _ _ | (with_reducible refine kSet ?_ ?hB _; case hB => (simp; try omega)) | with_reducible refine kAlloc ?_ _ | with_reducible refine Below.drew ?_ | with_reducible refine kDrewN ?_ _ | with_reducible refine kTrans ?_ (by assumption))
  have rm : (((w.alloc (.cells #[.int .i8 wd, .int .i8 hi, .slice (some ⟨b, 0, none⟩) l.length l.length, .slice (some ⟨k, 0, none⟩) p.length p.length, .slice (some ⟨q, 0, none⟩) c.length c.length] 40)).alloc (.cells #[.slice (some ⟨g, 0, none⟩) t.length t.length] 30)).alloc (.cells #[.int .i8 0, .int .i8 0, .map none, .int .i8 0, .int .i8 0, .slice none 0 0, .slice none 0 0, .slice none 0 0] 84)).heap[w.heap.size]? = some (.cells #[.int .i8 wd, .int .i8 hi, .slice (some ⟨b, 0, none⟩) l.length l.length, .slice (some ⟨k, 0, none⟩) p.length p.length, .slice (some ⟨q, 0, none⟩) c.length c.length] 40 (0, 0)) := mBlk_below (mNew w _) (kAlloc (kAlloc (Below.refl _ _) _) _)
  have rl : (((w.alloc (.cells #[.int .i8 wd, .int .i8 hi, .slice (some ⟨b, 0, none⟩) l.length l.length, .slice (some ⟨k, 0, none⟩) p.length p.length, .slice (some ⟨q, 0, none⟩) c.length c.length] 40)).alloc (.cells #[.slice (some ⟨g, 0, none⟩) t.length t.length] 30)).alloc (.cells #[.int .i8 0, .int .i8 0, .map none, .int .i8 0, .int .i8 0, .slice none 0 0, .slice none 0 0, .slice none 0 0] 84)).heap[w.heap.size + 1]? = some (.cells #[.slice (some ⟨g, 0, none⟩) t.length t.length] 30 (0, 0)) := by
    have := mNew (w.alloc (.cells #[.int .i8 wd, .int .i8 hi, .slice (some ⟨b, 0, none⟩) l.length l.length, .slice (some ⟨k, 0, none⟩) p.length p.length, .slice (some ⟨q, 0, none⟩) c.length c.length] 40)) (.cells #[.slice (some ⟨g, 0, none⟩) t.length t.length] 30)
    simp only [World.size_alloc] at this
    exact mBlk_below this (kAlloc (Below.refl _ _) _)
  have rs : (((w.alloc (.cells #[.int .i8 wd, .int .i8 hi, .slice (some ⟨b, 0, none⟩) l.length l.length, .slice (some ⟨k, 0, none⟩) p.length p.length, .slice (some ⟨q, 0, none⟩) c.length c.length] 40)).alloc (.cells #[.slice (some ⟨g, 0, none⟩) t.length t.length] 30)).alloc (.cells #[.int .i8 0, .int .i8 0, .map none, .int .i8 0, .int .i8 0, .slice none 0 0, .slice none 0 0, .slice none 0 0] 84)).heap[w.heap.size + 2]? = some (.cells #[.int .i8 0, .int .i8 0, .map none, .int .i8 0, .int .i8 0, .slice none 0 0, .slice none 0 0, .slice none 0 0] 84 (0, 0)) := by
    have := mNew ((w.alloc (.cells #[.int .i8 wd, .int .i8 hi, .slice (some ⟨b, 0, none⟩) l.length l.length, .slice (some ⟨k, 0, none⟩) p.length p.length, .slice (some ⟨q, 0, none⟩) c.length c.length] 40)).alloc (.cells #[.slice (some ⟨g, 0, none⟩) t.length t.length] 30)) (.cells #[.int .i8 0, .int .i8 0, .map none, .int .i8 0, .int .i8 0, .slice none 0 0, .slice none 0 0, .slice none 0 0] 84)
    simpa only [World.size_alloc] using this
  have sz : (((w.alloc (.cells #[.int .i8 wd, .int .i8 hi, .slice (some ⟨b, 0, none⟩) l.length l.length, .slice (some ⟨k, 0, none⟩) p.length p.length, .slice (some ⟨q, 0, none⟩) c.length c.length] 40)).alloc (.cells #[.slice (some ⟨g, 0, none⟩) t.length t.length] 30)).alloc (.cells #[.int .i8 0, .int .i8 0, .map none, .int .i8 0, .int .i8 0, .slice none 0 0, .slice none 0 0, .slice none 0 0] 84)).heap.size = w.heap.size + 3 := by simp
  have HR := Lib.hid hO
  have HT := Lib.hid (fun W (hW : Below w.heap.size w W) => ht.below hW zg)
  have H := Lib.hid (deviceOf_any b k q wd hi l p c _ (hp.below bW zb) (hg.below bW zk) (hj.below bW zq) (Nat.lt_of_lt_of_le zb bW.size) (Nat.lt_of_lt_of_le zk bW.size) (Nat.lt_of_lt_of_le zq bW.size) h8 hw m0 m1 m2 M hM)
  have HM := Lib.hid hM
  clear hp hg hj ht h8 hw hM hO
  go_enter Tryz.func52, Tryz.ntmps52
  go_wp2_with fail
  generalize ((w.alloc (.cells #[.int .i8 wd, .int .i8 hi, .slice (some ⟨b, 0, none⟩) l.length l.length, .slice (some ⟨k, 0, none⟩) p.length p.length, .slice (some ⟨q, 0, none⟩) c.length c.length] 40)).alloc (.cells #[.slice (some ⟨g, 0, none⟩) t.length t.length] 30)).alloc (.cells #[.int .i8 0, .int .i8 0, .map none, .int .i8 0, .int .i8 0, .slice none 0 0, .slice none 0 0, .slice none 0 0] 84) = W0 at *
  refine H.out.mono ?_
  clear H
  cases M with
  | false =>
    rintro e w1 ⟨_, h1, hb1⟩
    obtain rfl := h1 rfl
    have T1 := kTrans bW hb1
    have rs1 := mBlk_below rs hb1
    have hz1 : w.heap.size + 2 < w1.heap.size := by have := hb1.size; omega
    have rsb := mBlk_below rs1 (kAlloc (Below.refl _ _) (.cells #[.int .i8 0, .int .i8 0, .map none, .int .i8 0, .int .i8 0, .slice none 0 0, .slice none 0 0, .slice none 0 0] 84))
    clear h1 bW rs rm rl sz hb1 rs1
    go_wp2_with (refine wpList_store_row rfl 84 _ _ rfl (w.heap.size + 2) #[.int .i8 0, .int .i8 0, .map none, .int .i8 0, .int .i8 0, .slice none 0 0, .slice none 0 0, .slice none 0 0] rfl rfl 84 _ rsb (by kernel_rfl) (by kernel_rfl) (by kernel_rfl) ?_)
    refine bodyPost_ret (v := .tuple #[.agg #[.int .i8 0, .int .i8 0, .map none, .int .i8 0, .int .i8 0, .slice none 0 0, .slice none 0 0, .slice none 0 0], .nilFunc, .int .i64 1]) (results_cell_tmp2 rfl _ _ (w.heap.size + 2) 84 #[.int .i8 0, .int .i8 0, .map none, .int .i8 0, .int .i8 0, .slice none 0 0, .slice none 0 0, .slice none 0 0] (0, 0) _ _ _ rfl rfl rfl (setRow_heap _ _ _ _ _ _ rsb) Tryz.underlying84 rfl (by kernel_rfl)) rfl ?_
    exact ⟨(fun h => nomatch h), fun _ => rfl, kRowW (by repeat (first | with_reducible exact Below.refl _ _ | (with_reducible refine kSet ?_ ?hB _; case hB => (simp; try omega)) | with_reducible refine kAlloc ?_ _ | with_reducible refine Below.drew ?_ | with_reducible refine kDrewN ?_ _ | with_reducible refine kTrans ?_ (by assumption))) (by omega) _⟩
  | true =>
    rintro e w1 ⟨h1, _, hb1⟩
    obtain ⟨B, rfl, hmp⟩ := h1 rfl
    have T1 := kTrans bW hb1
    have hz1 : w.heap.size + 2 < w1.heap.size := by have := hb1.size; omega
    have hn6 : p.length ≤ 6 := by
      have h := HM.out.symm
      unfold machOk countsOk at h
      simp at h
      omega
    have hal : Below w1.heap.size w1 (w1.alloc (.cells #[.int .i8 wd, .int .i8 hi, .map (some B), .int .i8 wd, .int .i8 hi, .slice (some ⟨b, 0, none⟩) l.length l.length, .slice (some ⟨k, 0, none⟩) p.length p.length, .slice (some ⟨q, 0, none⟩) c.length c.length] 84)) := by repeat (first | with_reducible exact Below.refl _ _ | (with_reducible refine kSet ?_ ?hB _; case hB => (simp; try omega)) | with_reducible refine kAlloc ?_ _ | with_reducible refine Below.drew ?_ | with_reducible refine kDrewN ?_ _ | with_reducible refine kTrans ?_ (by assumption))
    have T2 := kTrans T1 hal
    have rs2 := Lib.hid (mBlk_below (mBlk_below rs hb1) hal)
    have rl2 := Lib.hid (mBlk_below (mBlk_below rl hb1) hal)
    have d2 := Lib.hid (mNew w1 (.cells #[.int .i8 wd, .int .i8 hi, .map (some B), .int .i8 wd, .int .i8 hi, .slice (some ⟨b, 0, none⟩) l.length l.length, .slice (some ⟨k, 0, none⟩) p.length p.length, .slice (some ⟨q, 0, none⟩) c.length c.length] 84))
    have qm2 := Lib.hid (hmp.below hal)
    have sz2 : (w1.alloc (.cells #[.int .i8 wd, .int .i8 hi, .map (some B), .int .i8 wd, .int .i8 hi, .slice (some ⟨b, 0, none⟩) l.length l.length, .slice (some ⟨k, 0, none⟩) p.length p.length, .slice (some ⟨q, 0, none⟩) c.length c.length] 84)).heap.size = w1.heap.size + 1 := by simp
    obtain ⟨R1, hR1⟩ : ∃ R1, R1 = decide (0 ≤ row ∧ row < 2 ^ p.length) := ⟨_, rfl⟩
    have HR1 := Lib.hid hR1
    clear h1 bW rs rm rl sz hb1 hmp T1 hR1
    go_wp2_with fail
    generalize w1.alloc (.cells #[.int .i8 wd, .int .i8 hi, .map (some B), .int .i8 wd, .int .i8 hi, .slice (some ⟨b, 0, none⟩) l.length l.length, .slice (some ⟨k, 0, none⟩) p.length p.length, .slice (some ⟨q, 0, none⟩) c.length c.length] 84) = w2 at *
    clear hal
    refine (hasRow_any B wd hi row _ _ _ _ _ _ _ _ _ _ hn6 R1 HR1.out).mono ?_
    rintro e w3 ⟨rfl, hb3⟩
    have T3 := kTrans T2 hb3
    have rs3 := Lib.hid (mBlk_below rs2.out hb3)
    have rl3 := Lib.hid (mBlk_below rl2.out hb3)
    have d3 := Lib.hid (mBlk_below d2.out hb3)
    have qm3 := Lib.hid (qm2.out.below hb3)
    have sz3 : w1.heap.size < w3.heap.size := by have := hb3.size; omega
    clear rs2 rl2 d2 qm2 T2 hb3 sz2
    have NO : ∀ {x : Bool}, O = false → (true && O) = false := fun h => by simp [h]
    cases R1 with
    | false =>
      obtain rfl : O = false := by rw [HR.out]; unfold rowOk; rw [← HR1.out]; rfl
      go_wp2_with (refine wpList_store_row rfl 84 _ _ rfl (w.heap.size + 2) #[.int .i8 0, .int .i8 0, .map none, .int .i8 0, .int .i8 0, .slice none 0 0, .slice none 0 0, .slice none 0 0] rfl rfl 84 _ rs3.out (by kernel_rfl) (by kernel_rfl) (by kernel_rfl) ?_)
      refine bodyPost_ret (v := .tuple #[.agg #[.int .i8 0, .int .i8 0, .map none, .int .i8 0, .int .i8 0, .slice none 0 0, .slice none 0 0, .slice none 0 0], .nilFunc, .int .i64 2]) (results_cell_tmp2 rfl _ _ (w.heap.size + 2) 84 #[.int .i8 0, .int .i8 0, .map none, .int .i8 0, .int .i8 0, .slice none 0 0, .slice none 0 0, .slice none 0 0] (0, 0) _ _ _ rfl rfl rfl (setRow_heap _ _ _ _ _ _ rs3.out) Tryz.underlying84 rfl (by kernel_rfl)) rfl ?_
      exact ⟨(fun _ h => nomatch h), fun _ => rfl, kRowW T3 (by omega) _⟩
    | true =>
      have x0 : w3.cell? ⟨w1.heap.size, 0, none⟩ = some (.int .i8 wd) := cell_of_row _ _ 0 _ _ _ d3.out
      have x1 : w3.cell? ⟨w1.heap.size, 1, none⟩ = some (.int .i8 hi) := cell_of_row _ _ 1 _ _ _ d3.out
      have x2 : w3.cell? ⟨w1.heap.size, 2, none⟩ = some (.map (some B)) := cell_of_row _ _ 2 _ _ _ d3.out
      have x3 : w3.cell? ⟨w1.heap.size, 3, none⟩ = some (.int .i8 wd) := cell_of_row _ _ 3 _ _ _ d3.out
      have x4 : w3.cell? ⟨w1.heap.size, 4, none⟩ = some (.int .i8 hi) := cell_of_row _ _ 4 _ _ _ d3.out
      have x5 : w3.cell? ⟨w1.heap.size, 5, none⟩ = some (.slice (some ⟨b, 0, none⟩) l.length l.length) := cell_of_row _ _ 5 _ _ _ d3.out
      have x6 : w3.cell? ⟨w1.heap.size, 6, none⟩ = some (.slice (some ⟨k, 0, none⟩) p.length p.length) := cell_of_row _ _ 6 _ _ _ d3.out
      have x7 : w3.cell? ⟨w1.heap.size, 7, none⟩ = some (.slice (some ⟨q, 0, none⟩) c.length c.length) := cell_of_row _ _ 7 _ _ _ d3.out
      have y0 : w3.cell? ⟨w.heap.size + 1, 0, none⟩ = some (.slice (some ⟨g, 0, none⟩) t.length t.length) := cell_of_row _ _ 0 _ _ _ rl3.out
      obtain ⟨n, hn⟩ : ∃ n, p.length = n := ⟨_, rfl⟩
      obtain ⟨r, hr⟩ : ∃ r, t.length = r := ⟨_, rfl⟩
      by_cases hrn : r = n
      · have n1 : ((r : Int) != (n : Int)) = false := by rw [hrn]; simp
        have n2 : ((t.length : Int) != (p.length : Int)) = false := by rw [hr, hn]; exact n1
        have hOl : O = lateAll t := by rw [HR.out]; unfold rowOk; rw [← HR1.out, hr, hn]; simp [hrn]
        have HO : Hid (lateAll (t.drop 0) = O) := Lib.hid (by rw [hOl]; rfl)
        have HT3 := Lib.hid (HT.out w3 T3)
        clear hOl n1 hn hr hrn
        go_wp2
        go_loopw [12, 37] (fun _ i wr => ∃ j : Nat, j ≤ t.length ∧ i = .int .i64 j ∧ Hid (lateAll (t.drop j) = O) ∧ w3 = wr) (fun _ i _ => t.length - (intOf i).toNat)
        case atStart => exact ⟨0, by omega, rfl, HO, rfl⟩
        case round =>
          obtain ⟨j, hj, rfl, hf, rfl⟩ := hrel
          clear HO
          by_cases hlt : j < t.length
          · have hpa := HT3.out j hlt
            have hd : t.drop j = t[j] :: t.drop (j + 1) := List.drop_eq_getElem_cons hlt
            generalize t[j] = a at hpa hd
            simp only [Nat.zero_add] at hpa
            have hq := hf.out
            rw [hd] at hq
            clear hd hf
            obtain ⟨B1, hB1⟩ : ∃ B1, B1 = decide (0 ≤ a ∧ a ≤ 100) := ⟨_, rfl⟩
            have HB1 := Lib.hid hB1
            have hq2 : (B1 && lateAll (t.drop (j + 1))) = O := by rw [← hq, hB1]; rfl
            clear hB1 hq
            go_wp2_with fail
            refine (isLate_any _ _ B1 HB1.out).mono ?_
            rintro e w4 ⟨rfl, rfl⟩
            cases B1 with
            | true =>
              have hR2 : Hid (lateAll (t.drop (j + 1)) = O) := Lib.hid (by rw [← hq2]; simp)
              clear hq2
              go_wp2
              exact ⟨⟨j + 1, by omega, by go_num, hR2, trivial⟩, by simp [intOf]; omega⟩
            | false =>
              obtain rfl : O = false := by rw [← hq2]; simp
              clear hq2
              go_wp2_with (refine wpList_store_row rfl 84 _ _ rfl (w.heap.size + 2) #[.int .i8 0, .int .i8 0, .map none, .int .i8 0, .int .i8 0, .slice none 0 0, .slice none 0 0, .slice none 0 0] rfl rfl 84 _ rs3.out (by kernel_rfl) (by kernel_rfl) (by kernel_rfl) ?_)
              refine bodyPost_ret (v := .tuple #[.agg #[.int .i8 0, .int .i8 0, .map none, .int .i8 0, .int .i8 0, .slice none 0 0, .slice none 0 0, .slice none 0 0], .nilFunc, .int .i64 2]) (results_cell_tmp2 rfl _ _ (w.heap.size + 2) 84 #[.int .i8 0, .int .i8 0, .map none, .int .i8 0, .int .i8 0, .slice none 0 0, .slice none 0 0, .slice none 0 0] (0, 0) _ _ _ rfl rfl rfl (setRow_heap _ _ _ _ _ _ rs3.out) Tryz.underlying84 rfl (by kernel_rfl)) rfl ?_
              exact ⟨(fun _ h => nomatch h), fun _ => rfl, kRowW T3 (by omega) _⟩
          · obtain rfl : O = true := by rw [← hf.out, List.drop_of_length_le (by omega)]; rfl
            clear hf
            have hne : B ≠ w.heap.size + 2 := by
              obtain ⟨es, c, hm1, _⟩ := qm3.out
              intro e
              rw [e, rs3.out] at hm1
              cases hm1
            have hmf : ∀ (fn : Fn) (first cap : Array Value) (w : World), (Instr.makeFunc fn first cap).run Tryz.prog w = .ok (.func fn first cap) w := fun _ _ _ _ => rfl
            go_wp2_with (refine wpList_store_row rfl 84 _ _ rfl (w.heap.size + 2) #[.int .i8 wd, .int .i8 hi, .map (some B), .int .i8 wd, .int .i8 hi, .slice (some ⟨b, 0, none⟩) l.length l.length, .slice (some ⟨k, 0, none⟩) p.length p.length, .slice (some ⟨q, 0, none⟩) c.length c.length] rfl rfl 84 _ rs3.out (by kernel_rfl) (by kernel_rfl) (by kernel_rfl) ?_)
            refine bodyPost_ret (v := .tuple #[.agg #[.int .i8 wd, .int .i8 hi, .map (some B), .int .i8 wd, .int .i8 hi, .slice (some ⟨b, 0, none⟩) l.length l.length, .slice (some ⟨k, 0, none⟩) p.length p.length, .slice (some ⟨q, 0, none⟩) c.length c.length], .func (.func 89) #[] #[.pointer (some ⟨w.heap.size + 1, 0, none⟩)], .int .i64 0]) (results_cell_tmp2 rfl _ _ (w.heap.size + 2) 84 #[.int .i8 wd, .int .i8 hi, .map (some B), .int .i8 wd, .int .i8 hi, .slice (some ⟨b, 0, none⟩) l.length l.length, .slice (some ⟨k, 0, none⟩) p.length p.length, .slice (some ⟨q, 0, none⟩) c.length c.length] (0, 0) _ _ _ rfl rfl rfl (setRow_heap _ _ _ _ _ _ rs3.out) Tryz.underlying84 rfl (by kernel_rfl)) rfl ?_
            exact ⟨fun _ _ => ⟨B, w.heap.size + 1, rfl, qm3.out.rowD hne, cell_of_row _ _ 0 _ _ _ (blk_row rl3.out (by omega)), by omega⟩, (fun h => nomatch h), kRowW T3 (by omega) _⟩
      · have n1 : ((r : Int) != (n : Int)) = true := by simpa using (fun e => hrn (by omega))
        have n2 : ((t.length : Int) != (p.length : Int)) = true := by rw [hr, hn]; exact n1
        obtain rfl : O = false := by rw [HR.out]; unfold rowOk; rw [hr, hn]; simp [hrn]
        clear n1 hn hr hrn
        go_wp2_with (refine wpList_store_row rfl 84 _ _ rfl (w.heap.size + 2) #[.int .i8 0, .int .i8 0, .map none, .int .i8 0, .int .i8 0, .slice none 0 0, .slice none 0 0, .slice none 0 0] rfl rfl 84 _ rs3.out (by kernel_rfl) (by kernel_rfl) (by kernel_rfl) ?_)
        refine bodyPost_ret (v := .tuple #[.agg #[.int .i8 0, .int .i8 0, .map none, .int .i8 0, .int .i8 0, .slice none 0 0, .slice none 0 0, .slice none 0 0], .nilFunc, .int .i64 2]) (results_cell_tmp2 rfl _ _ (w.heap.size + 2) 84 #[.int .i8 0, .int .i8 0, .map none, .int .i8 0, .int .i8 0, .slice none 0 0, .slice none 0 0, .slice none 0 0] (0, 0) _ _ _ rfl rfl rfl (setRow_heap _ _ _ _ _ _ rs3.out) Tryz.underlying84 rfl (by kernel_rfl)) rfl ?_
        exact ⟨(fun _ h => nomatch h), fun _ => rfl, kRowW T3 (by omega) _⟩
end Go.Proofs.YtaapdjidiahmpaaGreatDoor
