/- Several texts in one: Bi, Ld, Ls, Pl, Pi. -/
import Derived.Test.YthohngkdfhpieaaGreatDoorDv
import Derived.Test.YthohngkdfhpieaaGreatDoorDo
import Derived.Test.YthohngkdfhpieaaGreatDoorIn
import Derived.Test.YthohngkdfhpieaaGreatDoorMs
import Derived.Test.YthohngkdfhpieaaGreatDoorG7
import Derived.Test.YthohngkdfhpieaaGreatDoorG4
import Derived.Deep.RegionHeldLaw
/- Ones in rows: hasOne, isBelowPower, hasRow, isLate; the model's rows. -/
namespace Go.Proofs.YthohngkdfhpieaaGreatDoor
open Go.ChangeShapes Go.WideShapes Go.ChangeAt Go.RowKit Go.Joins Go.Deep
set_option linter.unusedVariables false
set_option linter.unusedSimpArgs false

/-- the i-th digit of a row is a 1 -/
def bitB (row : Int) (i : Nat) : Bool := Go.bits .and .i64 (row / 2 ^ i) 1 == 1
theorem isLate_any (n : Int) (w : World) (b : Bool) (hb : b = decide (0 ≤ n ∧ n ≤ 100)) :
    Calls Tryz.prog 64 #[.int .i64 n] w fun e w' => e = .returned (.bool b) ∧ w = w' := by
  by_cases h1 : 0 ≤ n
  · by_cases h2 : n ≤ 100
    · obtain rfl : b = true := by rw [hb]; simp; omega
      clear hb
      go_enter Tryz.func64, Tryz.ntmps64
      go_wp2
      go_ret
      exact ⟨rfl, rfl⟩
    · obtain rfl : b = false := by rw [hb]; simp; omega
      have h2' : decide (n ≤ 100) = false := by simp; omega
      clear hb h2
      go_enter Tryz.func64, Tryz.ntmps64
      go_wp2
      go_ret
      exact ⟨rfl, rfl⟩
  · obtain rfl : b = false := by rw [hb]; simp; omega
    have h1' : decide (0 ≤ n) = false := by simp; omega
    clear hb h1
    go_enter Tryz.func64, Tryz.ntmps64
    go_wp2
    go_ret
    exact ⟨rfl, rfl⟩
theorem hasOne_any (row : Int) (i : Nat) (w : World) (h0 : 0 ≤ row) (hm : row ≤ 9223372036854775807) (hi : i ≤ 64) :
    Calls Tryz.prog 96 #[.int .i64 row, .int .i64 i] w fun e w' => e = .returned (.bool (bitB row i)) ∧ w = w' := by
  have hi0 : (0 : Int) ≤ (i : Int) := by omega
  have hi1 : (i : Int) ≤ 64 := by omega
  have e : (i : Int).toNat = i := by simp
  unfold bitB
  go_enter Tryz.func96, Tryz.ntmps96
  go_wp2
  go_ret
  exact ⟨rfl, rfl⟩
theorem isBelowPower_key (row : Int) (w : World) (c m : Int) (hc : c = 0 ∧ m = 1 ∨ c = 1 ∧ m = 2 ∨ c = 2 ∧ m = 4 ∨ c = 3 ∧ m = 8 ∨ c = 4 ∧ m = 16 ∨ c = 5 ∧ m = 32 ∨ c = 6 ∧ m = 64) (b : Bool) (hb : b = decide (0 ≤ row ∧ row < m)) :
    Calls Tryz.prog 118 #[.int .i64 row, .int .i64 c] w fun e w' => e = .returned (.bool b) ∧ w = w' := by
  by_cases h1 : 0 ≤ row
  · by_cases h2 : row < m
    · obtain rfl : b = true := by rw [hb]; simp [h1, h2]
      clear hb
      rcases hc with ⟨rfl, rfl⟩ | ⟨rfl, rfl⟩ | ⟨rfl, rfl⟩ | ⟨rfl, rfl⟩ | ⟨rfl, rfl⟩ | ⟨rfl, rfl⟩ | ⟨rfl, rfl⟩ <;> (go_enter Tryz.func118, Tryz.ntmps118; go_wp2; go_ret; exact ⟨rfl, rfl⟩)
    · obtain rfl : b = false := by rw [hb]; simp [h2]
      clear hb
      have h3 : decide (row < m) = false := by simpa using h2
      rcases hc with ⟨rfl, rfl⟩ | ⟨rfl, rfl⟩ | ⟨rfl, rfl⟩ | ⟨rfl, rfl⟩ | ⟨rfl, rfl⟩ | ⟨rfl, rfl⟩ | ⟨rfl, rfl⟩ <;> (go_enter Tryz.func118, Tryz.ntmps118; go_wp2; go_ret; exact ⟨rfl, rfl⟩)
  · obtain rfl : b = false := by rw [hb]; simp [h1]
    have h1' : decide (0 ≤ row) = false := by simp; omega
    clear hb h1 hc
    go_enter Tryz.func118, Tryz.ntmps118
    go_wp2
    go_ret
    exact ⟨rfl, rfl⟩
theorem pow_key {n : Nat} (hn : n ≤ 6) : (n : Int) = 0 ∧ (2 : Int) ^ n = 1 ∨ (n : Int) = 1 ∧ (2 : Int) ^ n = 2 ∨ (n : Int) = 2 ∧ (2 : Int) ^ n = 4 ∨ (n : Int) = 3 ∧ (2 : Int) ^ n = 8 ∨ (n : Int) = 4 ∧ (2 : Int) ^ n = 16 ∨ (n : Int) = 5 ∧ (2 : Int) ^ n = 32 ∨ (n : Int) = 6 ∧ (2 : Int) ^ n = 64 := by
  have hc : n = 0 ∨ n = 1 ∨ n = 2 ∨ n = 3 ∨ n = 4 ∨ n = 5 ∨ n = 6 := by omega
  rcases hc with rfl | rfl | rfl | rfl | rfl | rfl | rfl <;> decide
theorem isBelowPower_any (row : Int) (n : Nat) (w : World) (hn : n ≤ 6) (b : Bool) (hb : b = decide (0 ≤ row ∧ row < 2 ^ n)) :
    Calls Tryz.prog 118 #[.int .i64 row, .int .i64 n] w fun e w' => e = .returned (.bool b) ∧ w = w' :=
  isBelowPower_key row w n (2 ^ n) (pow_key hn) b hb
theorem l04Rows_key (w : World) (c m : Int) (hc : c = 0 ∧ m = 1 ∨ c = 1 ∧ m = 2 ∨ c = 2 ∧ m = 4 ∨ c = 3 ∧ m = 8 ∨ c = 4 ∧ m = 16 ∨ c = 5 ∧ m = 32 ∨ c = 6 ∧ m = 64) :
    Calls Tryz.prog 74 #[.int .i64 c] w fun e w' => e = .returned (.int .i64 m) ∧ w = w' := by
  rcases hc with ⟨rfl, rfl⟩ | ⟨rfl, rfl⟩ | ⟨rfl, rfl⟩ | ⟨rfl, rfl⟩ | ⟨rfl, rfl⟩ | ⟨rfl, rfl⟩ | ⟨rfl, rfl⟩ <;> (go_enter Tryz.func74, Tryz.ntmps74; go_wp2; go_ret; exact ⟨rfl, rfl⟩)
theorem l04Rows_any (n : Nat) (w : World) (hn : n ≤ 6) : Calls Tryz.prog 74 #[.int .i64 n] w fun e w' => e = .returned (.int .i64 (2 ^ n)) ∧ w = w' :=
  l04Rows_key w n (2 ^ n) (pow_key hn)
theorem l03Rows_any (bb n : Nat) (wd hi : Int) (v u : Value) (a1 : Option Addr) (d1 : Nat) (w : World) (hm : McAt w bb wd hi v (.slice a1 n d1) u) (hn : n ≤ 6) :
    Calls Tryz.prog 32 #[.pointer (some ⟨bb, 0, none⟩)] w fun e w' => e = .returned (.int .i64 (2 ^ n)) ∧ w = w' := by
  have H := Lib.hid (l04Rows_any n w hn)
  obtain ⟨x0, x1, x2, x3, x4⟩ := hm
  obtain ⟨m, hm⟩ : ∃ m : Int, m = 2 ^ n := ⟨_, rfl⟩
  rw [← hm] at H ⊢
  clear hm
  go_enter Tryz.func32, Tryz.ntmps32
  go_wp2_with fail
  refine H.out.mono ?_
  rintro e w1 ⟨rfl, rfl⟩
  go_wp2
  go_ret
  exact ⟨rfl, rfl⟩
end Go.Proofs.YthohngkdfhpieaaGreatDoor

/- A device with the inputs' late: lateDevice. -/
namespace Go.Proofs.YthohngkdfhpieaaGreatDoor
open Go.ChangeShapes Go.WideShapes Go.ChangeAt Go.RowKit Go.Joins Go.Deep
set_option linter.unusedVariables false
set_option linter.unusedSimpArgs false

def lateAll (t : List Int) : Bool := t.all fun x => decide (0 ≤ x ∧ x ≤ 100)
/-- row and late are as a machine of n inputs asks -/
def rowOk (n : Nat) (row : Int) (t : List Int) : Bool := decide (0 ≤ row ∧ row < 2 ^ n) && decide (t.length = n) && lateAll t
def askedC (M O : Bool) : Int := match M, O with | false, _ => 1 | true, false => 2 | true, true => 0
/-- a result in a box, and two in slots -/
theorem results_cell_tmp2 {P : Program} {fn : Func} {p q r : Tmp} {ty : TypeId} (h : fn.results = #[.cell p ty, .tmp q, .tmp r]) (tmps : Array Value) (w : World) (g : Nat) (t : TypeId) (cs : Array Value) (fr : Nat × Nat) (d : TypeDesc) (v u : Value)
    (hp : tmps.getD p undef = .pointer (some ⟨g, 0, none⟩)) (hq : tmps.getD q undef = v) (hr : tmps.getD r undef = u) (hg : w.heap[g]? = some (.cells cs t fr))
    (hu : P.underlying ty = some d) (hd : (match d with | .struct _ | .array _ _ => true | _ => false) = true) (hi : (P.info? ty).map (·.size) = some cs.size) :
    (results fn tmps).run P w = .ok (.tuple #[.agg cs, v, u]) w := by
  have hp' : tmps[p]?.getD undef = .pointer (some ⟨g, 0, none⟩) := by simpa using hp
  have hq' : tmps[q]?.getD undef = v := by simpa using hq
  have hr' : tmps[r]?.getD undef = u := by simpa using hr
  simp [results, h, hp', hq', hr', asAddr, run_loadVar_row w g t ty cs fr d hg hu hd hi]
set_option maxRecDepth 100000 in
set_option maxHeartbeats 2000000 in
theorem hasRow_any (B : Nat) (wd hi row : Int) (a0 a1 a2 : Option Addr) (n0 n1 n2 d0 d1 d2 : Nat) (w : World) (hn : n1 ≤ 6) (R : Bool) (hR : R = decide (0 ≤ row ∧ row < 2 ^ n1)) :
    Calls Tryz.prog 87 #[.agg #[.int .i8 wd, .int .i8 hi, .map (some B), .int .i8 wd, .int .i8 hi, .slice a0 n0 d0, .slice a1 n1 d1, .slice a2 n2 d2], .int .i64 row] w fun e w' => e = .returned (.bool R) ∧ Below w.heap.size w w' := by
  have H := Lib.hid (fun w => isBelowPower_any row n1 w hn R hR)
  clear hR
  go_enter Tryz.func87, Tryz.ntmps87
  go_wp2_with fail
  refine (H.out _).mono ?_
  rintro e w1 ⟨rfl, rfl⟩
  go_wp2
  go_ret
  exact ⟨rfl, by repeat (first | with_reducible exact Below.refl _ _ | (with_reducible refine kSet ?_ ?hB _; case hB => (simp; try omega)) | with_reducible refine kAlloc ?_ _ | with_reducible refine Below.drew ?_ | with_reducible refine kDrewN ?_ _ | with_reducible refine kTrans ?_ (by assumption))⟩
end Go.Proofs.YthohngkdfhpieaaGreatDoor

/- The model's code of a machine, a row and late. -/
namespace Go.Proofs.YthohngkdfhpieaaGreatDoor
open Go.ChangeShapes Go.WideShapes Go.ChangeAt Go.RowKit Go.Joins Go.Deep
set_option linter.unusedVariables false
set_option linter.unusedSimpArgs false

theorem pow_small {n : Nat} (hn : n ≤ 6) : 1 ≤ (2 : Int) ^ n ∧ (2 : Int) ^ n ≤ 64 := by
  have := pow_key hn
  omega
theorem machOk_len {wd hi : Int} {l : List Pc} {p : List Po} {c : List Cl} (h : machOk wd hi l p c = true) : p.length ≤ 6 := by
  unfold machOk countsOk at h
  simp at h
  omega
end Go.Proofs.YthohngkdfhpieaaGreatDoor

/- The pushes of a row: the model. -/
namespace Go.Proofs.YthohngkdfhpieaaGreatDoor
open Go.ChangeShapes Go.WideShapes Go.ChangeAt Go.RowKit Go.Joins Go.Deep
set_option linter.unusedVariables false
set_option linter.unusedSimpArgs false

/-- the pushes of a row, from the i-th input on -/
def pushFrom (row : Int) : List Po → List Int → Nat → List Pu
  | p :: l, x :: t, i => (if bitB row i then [⟨p.x, p.y, p.side, x⟩] else []) ++ pushFrom row l t (i + 1)
  | _, _, _ => []
theorem pushFrom_len (row : Int) : ∀ (l : List Po) (t : List Int) (i : Nat), (pushFrom row l t i).length ≤ l.length
  | [], _, _ => by simp [pushFrom]
  | _ :: _, [], _ => by simp [pushFrom]
  | p :: l, x :: t, i => by
    have := pushFrom_len row l t (i + 1)
    unfold pushFrom
    split <;> simp <;> omega
theorem lateAll_get {t : List Int} (h : lateAll t = true) {i : Nat} (hi : i < t.length) : 0 ≤ t[i] ∧ t[i] ≤ 100 := by
  unfold lateAll at h
  rw [List.all_eq_true] at h
  exact of_decide_eq_true (h _ (List.getElem_mem hi))
theorem info_PuP : (Tryz.prog.info? 140).map (fun i => (i.zero, i.size, i.bytes)) = some (some (.agg #[.int .i8 0, .int .i8 0, .int .i8 0, .int .i16 0]), 4, 6) := by kernel_rfl
set_option maxRecDepth 100000 in
set_option maxHeartbeats 8000000 in
theorem l03Pushes_any (bb k g n : Nat) (v0 v2 : Value) (wd hi row : Int) (p : List Po) (t : List Int) (w : World) (hn1 : p.length = n) (hr : t.length = n) (hm : McAt w bb wd hi v0 (.slice (some ⟨k, 0, none⟩) n n) v2) (hg : PosAt w k 0 p) (ht : InsAt w g 0 t) (zk : k < w.heap.size) (zg : g < w.heap.size)
    (h6 : n ≤ 6) (hrow : 0 ≤ row ∧ row ≤ 64) (hl : lateAll t = true) (L : List Pu) (hL : pushFrom row p t 0 = L) :
    Calls Tryz.prog 34 #[.pointer (some ⟨bb, 0, none⟩), .int .i64 row, .slice (some ⟨g, 0, none⟩) n n] w fun e w' => ∃ v, e = .returned v ∧ SlWPu w.heap.size w'.heap.size w' L v ∧ Below w.heap.size w w' := by
  have lbb := hm.lt
  have HM := Lib.hid (fun W (hW : Below w.heap.size w W) => hm.below hW lbb)
  have HG := Lib.hid (fun W (hW : Below w.heap.size w W) => hg.below hW zk)
  have HT := Lib.hid (fun W (hW : Below w.heap.size w W) => ht.below hW zg)
  have Hr := Lib.hid hr
  have Hn1 := Lib.hid hn1
  have HL := Lib.hid hl
  have HF : Hid ([] ++ pushFrom row (p.drop 0) (t.drop 0) 0 = L) := Lib.hid (by simpa using hL)
  obtain ⟨i0, hi0, hz0, hzz1, hzz2⟩ := info_parts info_PuP
  have Hi := Lib.hid hi0
  have Hz0 := Lib.hid hz0
  have Hz1 := Lib.hid hzz1
  have Hz2 := Lib.hid hzz2
  have own0 : Hid ((w.alloc (.cells #[] 140)).ownsRow w.heap.size 140 4 (.slice (some ⟨w.heap.size, 0, none⟩) 0 0) ([] : List Pu).length (flatPu [])) := Lib.hid (owns_new (Nat.le_refl _) (heap_alloc_new _ _))
  have hk0 : Below w.heap.size w (w.alloc (.cells #[] 140)) := by repeat (first | with_reducible exact Below.refl _ _ | (with_reducible refine kSet ?_ ?hB _; case hB => (simp; try omega)) | with_reducible refine kAlloc ?_ _ | with_reducible refine Below.drew ?_ | with_reducible refine kDrewN ?_ _ | with_reducible refine kTrans ?_ (by assumption))
  clear hm hg ht hr hn1 hl hL hi0 hz0 hzz1 hzz2
  go_enter Tryz.func34, Tryz.ntmps34
  go_wp2
  go_loopw [7, 8] (fun out i wr => ∃ (j : Nat) (P : List Pu), j ≤ n ∧ i = .int .i64 j ∧ P.length ≤ j ∧ Hid (P ++ pushFrom row (p.drop j) (t.drop j) j = L) ∧ Hid (wr.ownsRow w.heap.size 140 4 out P.length (flatPu P)) ∧ Below w.heap.size w wr) (fun _ i _ => n - (intOf i).toNat)
  case atStart => exact ⟨0, [], by omega, rfl, by simp, HF, own0, hk0⟩
  case round =>
    clear HF own0 hk0
    obtain ⟨j, P, hj, rfl, hPl, hf, hown, hbr⟩ := hrel
    obtain ⟨va, vc, rfl⟩ := owns_slice hown.out
    obtain ⟨x0, x1, x2, x3, x4⟩ := HM.out wr hbr
    by_cases hlt : j < n
    · have hlk : j < p.length := by rw [Hn1.out]; exact hlt
      have hlt2 : j < t.length := by rw [Hr.out]; exact hlt
      have hpa := (HG.out wr hbr) j hlk
      have hta := (HT.out wr hbr) j hlt2
      have hla := lateAll_get HL.out hlt2
      have hd : p.drop j = p[j] :: p.drop (j + 1) := List.drop_eq_getElem_cons hlk
      have hd2 : t.drop j = t[j] :: t.drop (j + 1) := List.drop_eq_getElem_cons hlt2
      have hel : ∀ W, Below w.heap.size w W → PoAt W k (0 + j * 3) p[j] ∧ W.cell? ⟨g, 0 + j, none⟩ = some (.int .i64 t[j]) := fun W hW => ⟨(HG.out W hW) j hlk, (HT.out W hW) j hlt2⟩
      generalize p[j] = a at hpa hd hel
      generalize t[j] = x at hta hd2 hla hel
      have HEL := Lib.hid hel
      clear hel
      have hq := hf.out
      rw [hd, hd2] at hq
      simp only [Nat.zero_add] at hta
      obtain ⟨a0, a1, a2⟩ := hpa
      simp only [Nat.zero_add] at a0 a1 a2
      have hju : IntKind.u64.wrap (j : Int) = j := IntWalk.u64_in _ (by omega)
      have hxw : IntKind.i16.wrap x = x := IntWalk.i16_in _ (by omega)
      have Hblk := Lib.hid (owns_block hown.out)
      have kb := Nat.lt_of_lt_of_le lbb hbr.size
      have kk := Nat.lt_of_lt_of_le zk hbr.size
      have kg := Nat.lt_of_lt_of_le zg hbr.size
      clear hd hd2 hf
      cases hb : bitB row j with
      | false =>
        have hR2 : Hid (P ++ pushFrom row (p.drop (j + 1)) (t.drop (j + 1)) (j + 1) = L) := Lib.hid (by rw [← hq]; simp [pushFrom, hb])
        have hb2 : (Go.bits .and .i64 (row / 2 ^ j) 1 == 1) = false := hb
        clear hq hb
        go_wp2
        exact ⟨⟨j + 1, P, by omega, by go_num, by omega, hR2, hown, hbr⟩, by simp [intOf]; omega⟩
      | true =>
        have hR2 : Hid ((P ++ [⟨a.x, a.y, a.side, x⟩]) ++ pushFrom row (p.drop (j + 1)) (t.drop (j + 1)) (j + 1) = L) := Lib.hid (by rw [← hq]; simp [pushFrom, hb])
        have hb2 : (Go.bits .and .i64 (row / 2 ^ j) 1 == 1) = true := hb
        clear hq hb
        go_wp2_with fail
        go_region_held_law (fun w' => w'.cell? ⟨bb, 3, none⟩ = some (.slice (some ⟨k, 0, none⟩) n n) ∧ w'.cell? ⟨k, j * 3, none⟩ = some (.int .i8 a.x) ∧ w'.cell? ⟨k, j * 3 + 1, none⟩ = some (.int .i8 a.y) ∧ w'.cell? ⟨k, j * 3 + 2, none⟩ = some (.int .i8 a.side) ∧ w'.cell? ⟨g, j, none⟩ = some (.int .i64 x)) (first | exact ⟨x3, a0, a1, a2, hta⟩ | exact ⟨(World.cell?_alloc_lt _ _ _ kb).trans x3, (World.cell?_alloc_lt _ _ _ kk).trans a0, (World.cell?_alloc_lt _ _ _ kk).trans a1, (World.cell?_alloc_lt _ _ _ kk).trans a2, (World.cell?_alloc_lt _ _ _ kg).trans hta⟩ | go_keep)
          (first
          | (refine step_append_own rfl _ _ 76 rfl w.heap.size 140 i0 _ 4 6 Tryz.underlying76 Hi.out Hz0.out Hz1.out Hz2.out rfl (by decide) (.slice va P.length vc) P.length (flatPu P) rfl (owns_below hown.out (by repeat (first | with_reducible exact Below.refl _ _ | (with_reducible refine kSet ?_ ?hB _; case hB => (simp; try omega)) | with_reducible refine kAlloc ?_ _ | with_reducible refine Below.drew ?_ | with_reducible refine kDrewN ?_ _ | with_reducible refine kTrans ?_ (by assumption)))) ⟨wr.heap.size, 0, none⟩ 1 1 (Pu.mk a.x a.y a.side x).cells rfl rfl (World.news_of_block (cs := #[.int .i8 a.x, .int .i8 a.y, .int .i8 a.side, .int .i16 x]) (heap_alloc_new wr.drew _)) (Pu_one _) (by unfold maxLen; omega) (by omega) (by have := hbr.size; simp; omega) ?_
             intro v6 w6 hown6 hgr hnil
             have Hown6 := Lib.hid (show w6.ownsRow w.heap.size 140 4 v6 (P ++ [Pu.mk a.x a.y a.side x]).length (flatPu (P ++ [Pu.mk a.x a.y a.side x])) by rw [flatPu_end, List.length_append]; exact hown6)
             have T6 : Below w.heap.size w w6 := grown_below (v := .slice va P.length vc) (by repeat (first | with_reducible exact Below.refl _ _ | (with_reducible refine kSet ?_ ?hB _; case hB => (simp; try omega)) | with_reducible refine kAlloc ?_ _ | with_reducible refine Below.drew ?_ | with_reducible refine kDrewN ?_ _ | with_reducible refine kTrans ?_ (by assumption))) hgr (by intro q hq; exact (Hblk.out q hq).1)
             obtain ⟨⟨a0, a1, a2⟩, hta⟩ := HEL.out w6 T6
             simp only [Nat.zero_add] at a0 a1 a2 hta
             obtain ⟨x0, x1, x2, x3, x4⟩ := HM.out w6 T6
             clear hown6 hgr hnil))
        go_wp2
        exact ⟨⟨j + 1, _, by omega, by go_num, by simp; omega, hR2, Hown6, T6⟩, by simp [intOf]; omega⟩
    · obtain rfl : j = n := by omega
      have hPL : P = L := by rw [← hf.out, List.drop_of_length_le (by rw [Hn1.out]; omega)]; simp [pushFrom]
      subst hPL
      clear hf
      go_wp2
      go_ret
      exact ⟨_, rfl, SlWPu.of_owns hown.out, hbr⟩
end Go.Proofs.YthohngkdfhpieaaGreatDoor

/- The pushes of a row: the program. -/
namespace Go.Proofs.YthohngkdfhpieaaGreatDoor
open Go.ChangeShapes Go.WideShapes Go.ChangeAt Go.RowKit Go.Joins Go.Deep
set_option linter.unusedVariables false
set_option linter.unusedSimpArgs false

theorem nil_ownsP {w : World} {base size : Nat} {e : TypeId} : w.ownsRow base e size (.slice none 0 0) 0 [] := ⟨by simp, .inl ⟨rfl, rfl⟩⟩
end Go.Proofs.YthohngkdfhpieaaGreatDoor
