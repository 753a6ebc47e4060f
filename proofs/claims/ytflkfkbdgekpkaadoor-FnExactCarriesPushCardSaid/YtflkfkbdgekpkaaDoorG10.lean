/- Several texts in one: Rp, Ha, It, Iu, Qu, Rs. -/
import Derived.Test.YtflkfkbdgekpkaaDoorG8
import Derived.Test.YtflkfkbdgekpkaaDoorG9
import Derived.Shelf.Spec.SlicesInsert
import Derived.Shelf.Bits.Mul64
import Derived.Deep.RegionLaw
import Derived.Outline
import Derived.Deep.DeepCutAuto
import Derived.Test.YtflkfkbdgekpkaaDoorG4
import Derived.Test.YtflkfkbdgekpkaaDoorG2
import Derived.Test.YtflkfkbdgekpkaaDoorG7
import Derived.RangeFuncNested
import Derived.RangeFuncBound
import Derived.RangeFuncCalls
import Derived.RangeFuncLeaves
import Derived.Shelf.Abstract
import Derived.Shelf.RegionOpen
import Derived.OwnWalkIn
import Derived.TacticsInMore
import Derived.LoopNIn
import Derived.LoopIn
import Derived.Deep.RegionHeld3
/- slices.Repeat of one fall: a row of falls that stay. -/
namespace Go.Proofs.YtflkfkbdgekpkaaDoor
open Go.ChangeShapes Go.WideShapes Go.ChangeAt Go.RowKit
set_option linter.unusedVariables false
set_option linter.unusedSimpArgs false

set_option maxHeartbeats 1000000 in
theorem mul64_one (n : Nat) (hn : n ≤ 1048576) (w : World) : Calls Tryd.prog 97 #[.int .u64 1, .int .u64 n] w fun e w' => e = .returned (.tuple #[.int .u64 0, .int .u64 n]) ∧ w = w' := by
  have h1 : bits .and .u64 1 4294967295 = 1 := Mul64.maskN 1 (by omega)
  have hm : bits .and .u64 (n : Int) 4294967295 = n := (Mul64.maskN n (by omega)).trans (by omega)
  have h0 : bits .and .u64 0 4294967295 = 0 := Mul64.maskN 0 (by omega)
  have hd : (n : Int) / 4294967296 = 0 := by omega
  have hw : IntKind.u64.wrap (n : Int) = n := Mul64.wrapN n (by omega)
  go_enter Tryd.func97, Tryd.ntmps97
  go_wp2
  go_ret2
  exact ⟨rfl, rfl⟩
theorem mul_one (n : Nat) (hn : n ≤ 1048576) (w : World) : Calls Tryd.prog 76 #[.int .u64 1, .int .u64 n] w fun e w' => e = .returned (.tuple #[.int .u64 0, .int .u64 n]) ∧ w = w' := by
  go_enter Tryd.func76, Tryd.ntmps76
  go_wp2_with fail
  refine (mul64_one n hn _).mono ?_
  rintro e w' ⟨rfl, rfl⟩
  go_wp2
  go_ret2
  exact ⟨rfl, rfl⟩
def stayCells : List Value := [.int .i64 (-1), .int .i8 0, .int .i64 (-1)]
def staysL : Nat → List Value
  | 0 => []
  | n + 1 => staysL n ++ stayCells
theorem staysL_length : ∀ n, (staysL n).length = n * 3
  | 0 => rfl
  | n + 1 => by show (staysL n ++ stayCells).length = _; rw [List.length_append, staysL_length n]; simp [stayCells]; omega
theorem staysL_add (n : Nat) : ∀ m, staysL (n + m) = staysL n ++ staysL m
  | 0 => by simp [staysL]
  | m + 1 => by show staysL (n + m) ++ stayCells = staysL n ++ (staysL m ++ stayCells); rw [staysL_add n m, List.append_assoc]
theorem staysL_get : ∀ (n k j : Nat), k < n → j < 3 → (staysL n)[k * 3 + j]? = stayCells[j]?
  | n + 1, k, j, hk, hj => by
    by_cases e : k = n
    · subst e
      show (staysL k ++ stayCells)[k * 3 + j]? = _
      rw [List.getElem?_append_right (by rw [staysL_length]; omega), staysL_length, show k * 3 + j - k * 3 = j by omega]
    · show (staysL n ++ stayCells)[k * 3 + j]? = _
      rw [List.getElem?_append_left (by rw [staysL_length]; omega)]
      exact staysL_get n k j (by omega) hj
theorem staysL_one : ∀ n, ∀ v ∈ staysL n, v.oneCell' = true
  | 0, v, h => by simp [staysL] at h
  | n + 1, v, h => by
    rcases List.mem_append.1 (show v ∈ staysL n ++ stayCells from h) with h | h
    · exact staysL_one n v h
    · simp only [stayCells, List.mem_cons, List.not_mem_nil, or_false] at h
      rcases h with rfl | rfl | rfl <;> rfl
theorem FRow.of_stays {w : World} {g n : Nat} {T : TypeId} {Z : List Value} (h : w.heap[g]? = some (.cells (staysL n ++ Z).toArray T (0, 0))) : FRow w g n (fun _ => stay) := by
  refine ⟨blk_lt h, fun k hk => ?_, fun j => frozen_of_row w _ j _ _ h⟩
  have hc : ∀ j, j < 3 → w.cell? ⟨g, k * 3 + j, none⟩ = stayCells[j]? := fun j hj => by
    rw [cell_of_row w g _ _ _ _ h, List.getElem?_toArray, List.getElem?_append_left (by rw [staysL_length]; omega)]
    exact staysL_get n k j hk hj
  exact ⟨hc 0 (by omega), hc 1 (by omega), hc 2 (by omega)⟩

theorem info_fall : (Tryd.prog.info? 73).map (fun i => (i.zero, i.size, i.bytes)) = some (some (.agg #[.int .i64 0, .int .i8 0, .int .i64 0]), 3, 24) := by kernel_rfl
theorem size_fall : (Tryd.prog.info? 73).map (·.size) = some 3 := by kernel_rfl
set_option maxRecDepth 100000 in
set_option maxHeartbeats 4000000 in
theorem repeat_any (b c0 n : Nat) (w : World) (T : TypeId) (hb : w.heap[b]? = some (.cells stayCells.toArray T (0, 0))) (hn : n ≤ 1048576) :
    Calls Tryd.prog 46 #[.slice (some ⟨b, 0, none⟩) 1 c0, .int .i64 n] w fun e w' =>
      ∃ g, e = .returned (.slice (some ⟨g, 0, none⟩) n n) ∧ FRow w' g n (fun _ => stay) ∧ w.heap.size ≤ g ∧ Below w.heap.size w w' := by
  obtain ⟨i0, hi0, hz0, hzs, hzb⟩ := info_parts info_fall
  have hmk := run_make w 57 73 i0 _ Tryd.underlying57 hi0 hz0 .i64 .i64 (n : Int) (n : Int) (by omega) (Int.le_refl _) (by rw [hzb]; omega) (by omega)
  simp only [Int.toNat_natCast, hzs] at hmk
  obtain ⟨R0, hR0⟩ : ∃ R0 : List Value, R0.toArray = madeCells (Value.agg #[.int .i64 0, .int .i8 0, .int .i64 0]).cells (n * 3) := ⟨(madeCells (Value.agg #[.int .i64 0, .int .i8 0, .int .i64 0]).cells (n * 3)).toList, Array.toArray_toList⟩
  have hl0 : R0.length = n * 3 := by have := congrArg Array.size hR0; simpa [madeCells] using this
  rw [← hR0] at hmk
  obtain ⟨W1, hW1⟩ : ∃ W1, w.alloc (.cells R0.toArray 73) = W1 := ⟨_, rfl⟩
  rw [hW1] at hmk
  have h1 : W1.heap[w.heap.size]? = some (.cells R0.toArray 73 (0, 0)) := by rw [← hW1]; exact heap_alloc_new _ _
  have T1 : Below w.heap.size w W1 := by rw [← hW1]; exact kAlloc (Below.refl _ _) _
  have hb1 := blk_below hb T1
  have hlb := blk_lt hb
  clear hW1 hR0 hi0 hz0 hzs hzb
  obtain ⟨k0, hk0⟩ : ∃ k0, Nat.min 1 n = k0 := ⟨_, rfl⟩
  have hk0n : k0 ≤ n ∧ (n = 0 ∨ 1 ≤ k0) := by
    rw [← hk0]
    exact ⟨Nat.min_le_right _ _, (Nat.eq_zero_or_pos n).imp id (fun h => Nat.le_min.2 ⟨Nat.le_refl _, h⟩)⟩
  have hk01 : k0 ≤ 1 := by rw [← hk0]; exact Nat.min_le_left _ _
  have hcp : ∀ ty dc, (Builtin.copy_ #[57, 57] ty #[.slice (some ⟨w.heap.size, 0, none⟩) n dc, .slice (some ⟨b, 0, none⟩) 1 c0]).run Tryd.prog W1 = .ok (goInt (k0 : Int)) (W1.setRow w.heap.size (staysL k0 ++ R0.drop (k0 * 3)).toArray) := fun ty dc => by
    have := run_copy_rowK (P := Tryd.prog) W1 3 57 57 ty 73 w.heap.size 0 n dc ⟨b, 0, none⟩ 1 c0 _ _ (staysL k0) Tryd.underlying57 size_fall h1 (by rw [hk0, staysL_length])
      (fun j u hj => by
        rw [Addr.add_lit, Nat.zero_add, cell_of_row W1 b _ _ _ _ hb1]
        have h01 : k0 = 0 ∨ k0 = 1 := by omega
        rcases h01 with rfl | rfl
        · simp [staysL] at hj
        · simpa [staysL] using hj)
      (by rw [List.size_toArray, staysL_length, hl0]; omega) (staysL_one k0)
    rw [this, hk0]
    simp only [Nat.zero_add, List.take_zero, List.nil_append, staysL_length]
  obtain ⟨W2, hW2⟩ : ∃ W2, W1.setRow w.heap.size (staysL k0 ++ R0.drop (k0 * 3)).toArray = W2 := ⟨_, rfl⟩
  rw [hW2] at hcp
  have h2 : W2.heap[w.heap.size]? = some (.cells (staysL k0 ++ R0.drop (k0 * 3)).toArray 73 (0, 0)) := by rw [← hW2]; exact setRow_heap _ _ _ _ _ _ h1
  have T2 : Below w.heap.size w W2 := by rw [← hW2]; exact kRowW T1 (Nat.le_refl _) _
  have HMK := Lib.hid hmk
  have HCP := Lib.hid hcp
  have H2 := Lib.hid h2
  have HL := Lib.hid hl0
  clear hmk hcp h2 hW2 h1 hb1 hb T1 hk0 hl0
  have hn0 : ¬ (n : Int) < 0 := by omega
  have hn1 : ¬ (9223372036854775807 : Int) < (n : Int) := by omega
  go_enter Tryd.func46, Tryd.ntmps46
  go_wp2_with fail
  refine (mul_one n hn _).mono ?_
  rintro e w' ⟨rfl, rfl⟩
  go_wp2
  rw [HMK.out]
  go_wp2
  rw [HCP.out]
  go_wp2
  go_loopw [8] (fun i wr => ∃ (k : Nat) (Z : List Value), k ≤ n ∧ (n = 0 ∨ 1 ≤ k) ∧ i = .int .i64 k ∧ Hid (wr.heap[w.heap.size]? = some (.cells (staysL k ++ Z).toArray 73 (0, 0))) ∧ Hid (Z.length = (n - k) * 3) ∧ Below w.heap.size w wr) (fun i _ => n - (intOf i).toNat)
  case atStart => exact ⟨k0, _, hk0n.1, hk0n.2, rfl, H2, Lib.hid (by rw [List.length_drop, HL.out]; omega), T2⟩
  case round =>
    clear H2 T2
    obtain ⟨k, Z, hk, hk1, rfl, hr, hz, hbr⟩ := hrel
    by_cases hlt : k < n
    · obtain ⟨m, hm⟩ : ∃ m, Nat.min k (n - k) = m := ⟨_, rfl⟩
      have hmk : m ≤ k ∧ m ≤ n - k := by rw [← hm]; exact ⟨Nat.min_le_left _ _, Nat.min_le_right _ _⟩
      have hm1 : 1 ≤ m := by rw [← hm]; exact Nat.le_min.2 ⟨by omega, by omega⟩
      have hrow : (staysL k ++ Z).take (k * 3) ++ staysL m ++ (staysL k ++ Z).drop (k * 3 + (staysL m).length) = staysL (k + m) ++ Z.drop (m * 3) := by
        rw [seg_write (X := staysL k) (Y := Z.take (m * 3)) (Z := Z.drop (m * 3)) (by rw [List.append_assoc, List.take_append_drop]) (staysL_length k) (by rw [List.length_take, hz.out, staysL_length]; omega), staysL_add]
      have hcp : ∀ ty dc sc, (Builtin.copy_ #[57, 57] ty #[.slice (some ⟨w.heap.size, k * 3, none⟩) (n - k) dc, .slice (some ⟨w.heap.size, 0, none⟩) k sc]).run Tryd.prog wr.drew = .ok (goInt (m : Int)) (wr.drew.setRow w.heap.size (staysL (k + m) ++ Z.drop (m * 3)).toArray) := fun ty dc sc => by
        have := run_copy_rowK (P := Tryd.prog) wr.drew 3 57 57 ty 73 w.heap.size (k * 3) (n - k) dc ⟨w.heap.size, 0, none⟩ k sc _ _ (staysL m) Tryd.underlying57 size_fall hr.out (by rw [hm, staysL_length])
          (fun j u hj => by
            have hjl := (List.getElem?_eq_some_iff.1 hj).1
            rw [staysL_length] at hjl
            rw [Addr.add_lit, Nat.zero_add, cell_of_row wr.drew _ _ _ _ _ hr.out, List.getElem?_toArray, List.getElem?_append_left (by rw [staysL_length]; omega), ← hj, show j = j / 3 * 3 + j % 3 by omega, staysL_get k _ _ (by omega) (by omega), staysL_get m _ _ (by omega) (by omega)])
          (by rw [List.size_toArray, List.length_append, staysL_length, staysL_length, hz.out]; omega) (staysL_one m)
        rw [this, hm]
        simp only [hrow]
      have HC := Lib.hid hcp
      have HR2 := Lib.hid (setRow_heap wr.drew _ _ (staysL (k + m) ++ Z.drop (m * 3)).toArray _ _ hr.out)
      have HB2 : Below w.heap.size w (wr.drew.setRow w.heap.size (staysL (k + m) ++ Z.drop (m * 3)).toArray) := kRowW (Below.drew hbr) (Nat.le_refl _) _
      obtain ⟨W3, hW3⟩ : ∃ W3, wr.drew.setRow w.heap.size (staysL (k + m) ++ Z.drop (m * 3)).toArray = W3 := ⟨_, rfl⟩
      rw [hW3] at HC HR2 HB2
      have hzz : Hid ((Z.drop (m * 3)).length = (n - (k + m)) * 3) := Lib.hid (by rw [List.length_drop, hz.out]; omega)
      have hw1 : IntKind.i64.wrap ((k : Int) + (m : Int)) = (k : Int) + (m : Int) := by rw [IntKind.wrap_i64]; omega
      have hnk : ¬ n = k := by omega
      have hb3 : (k : Int) ≤ (n : Int) := by omega
      clear hcp hrow hW3 hm hr hbr
      go_wp2
      go_region_law (refine step_copy_runI rfl _ _ 57 57 rfl (.slice (some ⟨w.heap.size, k * 3, none⟩) (n - k) (n - k)) (.slice (some ⟨w.heap.size, 0, none⟩) k n) (by simp [Act.eval, Act.put]) (by simp [Act.eval, Act.put]) (HC.out 3 (n - k) n) ?_)
      go_wp2
      refine ⟨⟨.int .i64 ((k : Int) + (m : Int)), _, _, _, _, _, _, _, _, _, _, _, _, _, ⟨k + m, _, by omega, .inr (by omega), by go_num, HR2, hzz, HB2⟩, rfl⟩, ?_⟩
      show n - ((k : Int) + (m : Int)).toNat < n - (k : Int).toNat
      omega
    · obtain rfl : k = n := by omega
      have HF := Lib.hid (FRow.of_stays hr.out)
      clear hr
      go_wp2
      go_ret
      exact ⟨_, rfl, HF.out, Nat.le_refl _, hbr⟩
end Go.Proofs.YtflkfkbdgekpkaaDoor

/- A hit in a cell: the program's hitAt. -/
namespace Go.Proofs.YtflkfkbdgekpkaaDoor
open Go.ChangeShapes Go.WideShapes Go.ChangeAt Go.RowKit
set_option linter.unusedVariables false
set_option linter.unusedSimpArgs false

/-- what hitAt answers -/
def HitPost (L : List Ht) (w : World) (e : Ending) (w' : World) : Prop :=
  ∃ (h : Ht) (ok : Bool), e = .returned (.tuple #[.agg #[.int .i64 h.1, .int .i64 h.2.tick, .int .i8 h.2.frm, .int .i64 h.2.who], .bool ok]) ∧ L = (if ok = true then [h] else []) ∧ Below w.heap.size w w'
theorem reac_0 (a b c d e : Value) (w : World) : (Instr.field 94 (.agg #[a, b, c, d, e]) 0).run Tryd.prog w = .ok a w := by kernel_rfl
theorem reac_1 (a b c d e : Value) (w : World) : (Instr.field 94 (.agg #[a, b, c, d, e]) 1).run Tryd.prog w = .ok (.agg #[b, c, d, e]) w := by kernel_rfl
set_option maxRecDepth 100000 in
set_option maxHeartbeats 4000000 in
theorem hitAt_any (B b o m cap : Nat) (pa : Option Addr) (pn pc : Nat) (wd hi x y : Int) (lb : List Pc) (f : Fl) (w : World) (hm : lb.length = m) (hp : PcsAt w b o lb) (hb : b < w.heap.size) (hcap : m ≤ cap) (hmp : MapAt w B lb) (hok : ∀ q ∈ lb, q.ok = true) (hmm : m ≤ 1048576) (hs : 0 ≤ f.frm ∧ f.frm ≤ 3) :
    Calls Tryd.prog 78 #[.agg #[.int .i8 wd, .int .i8 hi, .map (some B), .slice (some ⟨b, o, none⟩) m cap, .slice pa pn pc], .agg #[.int .i8 x, .int .i8 y], .agg #[.int .i64 f.tick, .int .i8 f.frm, .int .i64 f.who]] w (HitPost (hitAtL lb x y f) w) := by
  have Hm := Lib.hid hm
  have Hok := Lib.hid hok
  have HM := Lib.hid hmp
  have HP := Lib.hid hp
  obtain ⟨L, hL⟩ : ∃ L, hitAtL lb x y f = L := ⟨_, rfl⟩
  rw [hL]
  have HL := Lib.hid hL
  clear hm hok hmp hp hL
  obtain ⟨i, hi_⟩ : ∃ i, findFrom x y lb 0 = i := ⟨_, rfl⟩
  have bE : Below w.heap.size w ((((w.alloc (.cells #[.int .i8 wd, .int .i8 hi, .map (some B), .slice (some ⟨b, o, none⟩) m cap, .slice pa pn pc] 90)).alloc (.cells #[.int .i8 x, .int .i8 y] 36)).alloc (.cells #[.int .i64 f.tick, .int .i8 f.frm, .int .i64 f.who] 73)).alloc (.cells #[.int .i64 0, .int .i64 0, .int .i8 0, .int .i64 0] 107)) := (kAlloc (kAlloc (kAlloc (kAlloc (Below.refl _ _) _) _) _) _)
  have hix := indexAt_any wd hi x y B lb _ (HM.out.below bE)
  rw [hi_] at hix
  have Hix := Lib.hid hix
  have Hi := Lib.hid hi_
  clear hix hi_
  go_enter Tryd.func78, Tryd.ntmps78
  go_wp2_with fail
  refine (Hix.out).mono ?_
  rintro e w1_ ⟨rfl, b1_⟩
  have B1_ : Below w.heap.size w w1_ := kTrans (kAlloc (kAlloc (kAlloc (kAlloc (Below.refl _ _) _) _) _) _) b1_
  have n1_ : w.heap.size + 4 ≤ w1_.heap.size := by have := b1_.size; simpa using this
  have T1_ : Below w.heap.size w w1_ := B1_
  have m_1_ := Lib.hid (HM.out.below B1_)
  have p_1_ := Lib.hid (HP.out.below B1_ (by omega))
  have g_1_ := Lib.hid (show w1_.heap[w.heap.size]? = some (.cells #[.int .i8 wd, .int .i8 hi, .map (some B), .slice (some ⟨b, o, none⟩) m cap, .slice pa pn pc] 90 (0, 0)) from blk_below ((Below.heap_alloc _ (.cells #[.int .i64 0, .int .i64 0, .int .i8 0, .int .i64 0] 107) _ (by simp; try omega)).trans ((Below.heap_alloc _ (.cells #[.int .i64 f.tick, .int .i8 f.frm, .int .i64 f.who] 73) _ (by simp; try omega)).trans ((Below.heap_alloc _ (.cells #[.int .i8 x, .int .i8 y] 36) _ (by simp; try omega)).trans (heap_alloc_new w (.cells #[.int .i8 wd, .int .i8 hi, .map (some B), .slice (some ⟨b, o, none⟩) m cap, .slice pa pn pc] 90))))) b1_)
  have c_1_ := Lib.hid (show w1_.heap[w.heap.size + 1]? = some (.cells #[.int .i8 x, .int .i8 y] 36 (0, 0)) from blk_below ((Below.heap_alloc _ (.cells #[.int .i64 0, .int .i64 0, .int .i8 0, .int .i64 0] 107) _ (by simp; try omega)).trans ((Below.heap_alloc _ (.cells #[.int .i64 f.tick, .int .i8 f.frm, .int .i64 f.who] 73) _ (by simp; try omega)).trans (show ((w.alloc (.cells #[.int .i8 wd, .int .i8 hi, .map (some B), .slice (some ⟨b, o, none⟩) m cap, .slice pa pn pc] 90)).alloc (.cells #[.int .i8 x, .int .i8 y] 36)).heap[w.heap.size + 1]? = some _ from by have h := heap_alloc_new (w.alloc (.cells #[.int .i8 wd, .int .i8 hi, .map (some B), .slice (some ⟨b, o, none⟩) m cap, .slice pa pn pc] 90)) (.cells #[.int .i8 x, .int .i8 y] 36); simpa only [World.size_alloc] using h))) b1_)
  have f_1_ := Lib.hid (show w1_.heap[w.heap.size + 1 + 1]? = some (.cells #[.int .i64 f.tick, .int .i8 f.frm, .int .i64 f.who] 73 (0, 0)) from blk_below ((Below.heap_alloc _ (.cells #[.int .i64 0, .int .i64 0, .int .i8 0, .int .i64 0] 107) _ (by simp; try omega)).trans (show (((w.alloc (.cells #[.int .i8 wd, .int .i8 hi, .map (some B), .slice (some ⟨b, o, none⟩) m cap, .slice pa pn pc] 90)).alloc (.cells #[.int .i8 x, .int .i8 y] 36)).alloc (.cells #[.int .i64 f.tick, .int .i8 f.frm, .int .i64 f.who] 73)).heap[w.heap.size + 1 + 1]? = some _ from by have h := heap_alloc_new ((w.alloc (.cells #[.int .i8 wd, .int .i8 hi, .map (some B), .slice (some ⟨b, o, none⟩) m cap, .slice pa pn pc] 90)).alloc (.cells #[.int .i8 x, .int .i8 y] 36)) (.cells #[.int .i64 f.tick, .int .i8 f.frm, .int .i64 f.who] 73); simpa only [World.size_alloc] using h)) b1_)
  have r_1_ := Lib.hid (show w1_.heap[w.heap.size + 1 + 1 + 1]? = some (.cells #[.int .i64 0, .int .i64 0, .int .i8 0, .int .i64 0] 107 (0, 0)) from blk_below (show ((((w.alloc (.cells #[.int .i8 wd, .int .i8 hi, .map (some B), .slice (some ⟨b, o, none⟩) m cap, .slice pa pn pc] 90)).alloc (.cells #[.int .i8 x, .int .i8 y] 36)).alloc (.cells #[.int .i64 f.tick, .int .i8 f.frm, .int .i64 f.who] 73)).alloc (.cells #[.int .i64 0, .int .i64 0, .int .i8 0, .int .i64 0] 107)).heap[w.heap.size + 1 + 1 + 1]? = some _ from by have h := heap_alloc_new (((w.alloc (.cells #[.int .i8 wd, .int .i8 hi, .map (some B), .slice (some ⟨b, o, none⟩) m cap, .slice pa pn pc] 90)).alloc (.cells #[.int .i8 x, .int .i8 y] 36)).alloc (.cells #[.int .i64 f.tick, .int .i8 f.frm, .int .i64 f.who] 73)) (.cells #[.int .i64 0, .int .i64 0, .int .i8 0, .int .i64 0] 107); simpa only [World.size_alloc] using h) b1_)
  clear bE HM HP b1_ B1_
  clear Hix
  have Hlt := Lib.hid (findFrom_lt x y lb 0)
  by_cases g0 : i < 0
  · skip
    have e1 : decide (i < 0) = true := by simpa using g0
    go_wp2_with fail
    refine wp_region_class (fun w' => Below w1_.heap.size w1_ w') (by kernel_rfl) (by kernel_rfl) (Below.drew (Below.refl _ _)) ?_
    repeat (first
      | go_big_quiet_skip
      | (go_big_quiet_want; go_big_quiet_op; go_big_quiet_on)
      | (refine wpQuiet_step (fun K hK => ?_)
         go_simp
         refine hK _ ?_
         clear hK K)
      | (refine wpQuiet_step (fun K hK => ?_)
         go_simp
         apply Exists.intro
         refine ⟨fun w1 hw1 => ?_, hK _ ?_⟩
         · first
           | exact rfl
         clear hK K))
    refine wpQuiet_nil ?_
    intro w2_ b2_
    have n2_ : w1_.heap.size ≤ w2_.heap.size := b2_.size
    have T2_ : Below w.heap.size w w2_ := kTrans T1_ b2_
    have m_2_ := Lib.hid (m_1_.out.below b2_)
    have p_2_ := Lib.hid (p_1_.out.below b2_ (by omega))
    have g_2_ := Lib.hid (blk_below g_1_.out b2_)
    have c_2_ := Lib.hid (blk_below c_1_.out b2_)
    have f_2_ := Lib.hid (blk_below f_1_.out b2_)
    have r_2_ := Lib.hid (blk_below r_1_.out b2_)
    clear m_1_ p_1_ g_1_ c_1_ f_1_ r_1_ b2_ T1_
    have rs_ := r_2_.out
    go_wp2_with (refine wpList_store_row rfl 107 _ _ rfl (w.heap.size + 1 + 1 + 1) #[.int .i64 0, .int .i64 0, .int .i8 0, .int .i64 0] rfl rfl 107 _ rs_ (by kernel_rfl) (by kernel_rfl) (by kernel_rfl) ?_)
    refine bodyPost_ret (v := .tuple #[.agg #[.int .i64 0, .int .i64 0, .int .i8 0, .int .i64 0], .bool false]) (results_cell_tmp rfl _ _ (w.heap.size + 1 + 1 + 1) 107 #[.int .i64 0, .int .i64 0, .int .i8 0, .int .i64 0] (0, 0) _ _ rfl rfl (setRow_heap _ _ _ _ _ _ rs_) Tryd.underlying107 rfl (by kernel_rfl)) rfl ?_
    exact ⟨⟨0, ⟨0, 0, 0⟩⟩, false, rfl, by rw [← HL.out, hitAtL_no (by rw [Hi.out]; exact g0)]; rfl, kRowW T2_ (by omega) _⟩
  · skip
    obtain ⟨k, rfl⟩ : ∃ k : Nat, i = k := ⟨i.toNat, by omega⟩
    have hkl : k < lb.length := by
      rcases Hlt.out with h | h
      · rw [Hi.out] at h; omega
      · rw [Hi.out] at h; omega
    have hkm : k < m := by rw [← Hm.out]; exact hkl
    have hq := p_1_.out k hkl
    have hqk := Hok.out _ (List.getElem_mem hkl)
    have hpe : lb[k]? = some lb[k] := List.getElem?_eq_getElem hkl
    generalize lb[k] = q at hq hqk hpe
    have Hpe := Lib.hid hpe
    have hkk := of_decide_eq_true hqk
    have hk1 : 0 ≤ q.kind ∧ q.kind ≤ 5 := by omega
    have ht1 : 0 ≤ q.turn ∧ q.turn ≤ 3 := by omega
    obtain ⟨a0, a1, a2, a3, a4⟩ := hq
    have e1 : decide ((k : Int) < 0) = false := by simp
    have g1 : ¬ (k : Int) < 0 := by omega
    have hf0 := reac_0
    clear hpe hqk hkk g0 Hlt
    have lb_ : b < w1_.heap.size := by omega
    have cg_0 : w1_.cell? ⟨w.heap.size, 0, none⟩ = some (.int .i8 wd) := cell_of_row _ _ 0 _ _ _ g_1_.out
    have cg_1 : w1_.cell? ⟨w.heap.size, 1, none⟩ = some (.int .i8 hi) := cell_of_row _ _ 1 _ _ _ g_1_.out
    have cg_2 : w1_.cell? ⟨w.heap.size, 2, none⟩ = some (.map (some B)) := cell_of_row _ _ 2 _ _ _ g_1_.out
    have cg_3 : w1_.cell? ⟨w.heap.size, 3, none⟩ = some (.slice (some ⟨b, o, none⟩) m cap) := cell_of_row _ _ 3 _ _ _ g_1_.out
    have cg_4 : w1_.cell? ⟨w.heap.size, 4, none⟩ = some (.slice pa pn pc) := cell_of_row _ _ 4 _ _ _ g_1_.out
    have cf_0 : w1_.cell? ⟨w.heap.size + 1 + 1, 0, none⟩ = some (.int .i64 f.tick) := cell_of_row _ _ 0 _ _ _ f_1_.out
    have cf_1 : w1_.cell? ⟨w.heap.size + 1 + 1, 1, none⟩ = some (.int .i8 f.frm) := cell_of_row _ _ 1 _ _ _ f_1_.out
    have cf_2 : w1_.cell? ⟨w.heap.size + 1 + 1, 2, none⟩ = some (.int .i64 f.who) := cell_of_row _ _ 2 _ _ _ f_1_.out
    have lq_g := blk_lt g_1_.out
    have lq_f := blk_lt f_1_.out
    go_wp2_with fail
    refine wp_region_class (fun w' => Below w1_.heap.size w1_ w') (by kernel_rfl) (by kernel_rfl) (Below.drew (Below.refl _ _)) ?_
    repeat (first
      | go_big_quiet_skip
      | (go_big_quiet_want; go_big_quiet_op; go_big_quiet_on)
      | (refine wpQuiet_step (fun K hK => ?_)
         go_simp
         refine hK _ ?_
         clear hK K)
      | (refine wpQuiet_step (fun K hK => ?_)
         go_simp
         apply Exists.intro
         refine ⟨fun w1 hw1 => ?_, hK _ ?_⟩
         · first
           | exact rfl
           | (go_at_call 41
              (with_reducible refine (reactionOf_any q f.frm w1 hk1 ht1 hs).mono ?_)
              exact fun e w2 h => ⟨h.1, kTrans hw1 h.2⟩)
           | (have dg_0 := (hw1.cell (p := ⟨w.heap.size, 0, none⟩) lq_g).trans cg_0
              have dg_1 := (hw1.cell (p := ⟨w.heap.size, 1, none⟩) lq_g).trans cg_1
              have dg_2 := (hw1.cell (p := ⟨w.heap.size, 2, none⟩) lq_g).trans cg_2
              have dg_3 := (hw1.cell (p := ⟨w.heap.size, 3, none⟩) lq_g).trans cg_3
              have dg_4 := (hw1.cell (p := ⟨w.heap.size, 4, none⟩) lq_g).trans cg_4
              have df_0 := (hw1.cell (p := ⟨w.heap.size + 1 + 1, 0, none⟩) lq_f).trans cf_0
              have df_1 := (hw1.cell (p := ⟨w.heap.size + 1 + 1, 1, none⟩) lq_f).trans cf_1
              have df_2 := (hw1.cell (p := ⟨w.heap.size + 1 + 1, 2, none⟩) lq_f).trans cf_2
              have dc_0 := (hw1.cell (p := ⟨b, _, none⟩) lb_).trans a0
              have dc_1 := (hw1.cell (p := ⟨b, _, none⟩) lb_).trans a1
              have dc_2 := (hw1.cell (p := ⟨b, _, none⟩) lb_).trans a2
              have dc_3 := (hw1.cell (p := ⟨b, _, none⟩) lb_).trans a3
              have dc_4 := (hw1.cell (p := ⟨b, _, none⟩) lb_).trans a4
              go_simp
              exact rfl)
         clear hK K))
    refine wpQuiet_nil ?_
    intro w2_ b2_
    have n2_ : w1_.heap.size ≤ w2_.heap.size := b2_.size
    have T2_ : Below w.heap.size w w2_ := kTrans T1_ b2_
    have m_2_ := Lib.hid (m_1_.out.below b2_)
    have p_2_ := Lib.hid (p_1_.out.below b2_ (by omega))
    have g_2_ := Lib.hid (blk_below g_1_.out b2_)
    have c_2_ := Lib.hid (blk_below c_1_.out b2_)
    have f_2_ := Lib.hid (blk_below f_1_.out b2_)
    have r_2_ := Lib.hid (blk_below r_1_.out b2_)
    clear cg_0 cg_1 cg_2 cg_3 cg_4 cf_0 cf_1 cf_2 lq_g lq_f m_1_ p_1_ g_1_ c_1_ f_1_ r_1_ b2_ T1_
    clear a0 a1 a2 a3 a4 lb_
    cases g2 : rxF q.kind q.turn f.frm with
    | false =>
      have rs_ := r_2_.out
      go_wp2_with (refine wpList_store_row rfl 107 _ _ rfl (w.heap.size + 1 + 1 + 1) #[.int .i64 0, .int .i64 0, .int .i8 0, .int .i64 0] rfl rfl 107 _ rs_ (by kernel_rfl) (by kernel_rfl) (by kernel_rfl) ?_)
      refine bodyPost_ret (v := .tuple #[.agg #[.int .i64 0, .int .i64 0, .int .i8 0, .int .i64 0], .bool false]) (results_cell_tmp rfl _ _ (w.heap.size + 1 + 1 + 1) 107 #[.int .i64 0, .int .i64 0, .int .i8 0, .int .i64 0] (0, 0) _ _ rfl rfl (setRow_heap _ _ _ _ _ _ rs_) Tryd.underlying107 rfl (by kernel_rfl)) rfl ?_
      exact ⟨⟨0, ⟨0, 0, 0⟩⟩, false, rfl, by rw [← HL.out, hitAtL_stays Hi.out Hpe.out g2]; rfl, kRowW T2_ (by omega) _⟩
    | true =>
      have cf_0 : w2_.cell? ⟨w.heap.size + 1 + 1, 0, none⟩ = some (.int .i64 f.tick) := cell_of_row _ _ 0 _ _ _ f_2_.out
      have cf_1 : w2_.cell? ⟨w.heap.size + 1 + 1, 1, none⟩ = some (.int .i8 f.frm) := cell_of_row _ _ 1 _ _ _ f_2_.out
      have cf_2 : w2_.cell? ⟨w.heap.size + 1 + 1, 2, none⟩ = some (.int .i64 f.who) := cell_of_row _ _ 2 _ _ _ f_2_.out
      have rs_ := r_2_.out
      go_wp2_with (refine wpList_store_row rfl 107 _ _ rfl (w.heap.size + 1 + 1 + 1) #[.int .i64 k, .int .i64 f.tick, .int .i8 f.frm, .int .i64 f.who] rfl rfl 107 _ rs_ (by kernel_rfl) (by kernel_rfl) (by kernel_rfl) ?_)
      refine bodyPost_ret (v := .tuple #[.agg #[.int .i64 k, .int .i64 f.tick, .int .i8 f.frm, .int .i64 f.who], .bool true]) (results_cell_tmp rfl _ _ (w.heap.size + 1 + 1 + 1) 107 #[.int .i64 k, .int .i64 f.tick, .int .i8 f.frm, .int .i64 f.who] (0, 0) _ _ rfl rfl (setRow_heap _ _ _ _ _ _ rs_) Tryd.underlying107 rfl (by kernel_rfl)) rfl ?_
      exact ⟨⟨k, f⟩, true, rfl, by rw [← HL.out, hitAtL_falls Hi.out Hpe.out g2]; rfl, kRowW T2_ (by omega) _⟩
end Go.Proofs.YtflkfkbdgekpkaaDoor

/- The program's iterators over hits. -/
namespace Go.Proofs.YtflkfkbdgekpkaaDoor
open Go.ChangeShapes Go.WideShapes Go.ChangeAt Go.RowKit Go.Shelf
set_option linter.unusedVariables false
set_option linter.unusedSimpArgs false
attribute [local go_sem] Oper.semAt_some

/-- the blocks of S lie as they lay, and so do all cells but rows of hits and variables that hold such rows -/
structure KSet (S : Nat → Prop) (W W' : World) : Prop where
  size : W.heap.size ≤ W'.heap.size
  same : ∀ k, S k → W'.heap[k]? = W.heap[k]?
  cells : ∀ (k : Nat) (cs : Array Value) (t : TypeId) (fr : Nat × Nat), W.heap[k]? = some (.cells cs t fr) → t ≠ 107 → t ≠ 133 → W'.heap[k]? = some (.cells cs t fr)
theorem KSet.refl (S : Nat → Prop) (W : World) : KSet S W W := ⟨Nat.le_refl _, fun _ _ => rfl, fun _ _ _ _ h _ _ => h⟩
theorem KSet.trans {S : Nat → Prop} {A B C : World} (h : KSet S A B) (k : KSet S B C) : KSet S A C := ⟨Nat.le_trans h.size k.size, fun i hi => (k.same i hi).trans (h.same i hi), fun i cs t fr hi h1 h2 => k.cells i cs t fr (h.cells i cs t fr hi h1 h2) h1 h2⟩
theorem KSet.of_below {S : Nat → Prop} {W W' : World} (hS : ∀ k, S k → k < W.heap.size) (h : Below W.heap.size W W') : KSet S W W' := ⟨h.size, fun k hk => h.block k (hS k hk), fun k cs t fr hk _ _ => (h.block k (blk_lt hk)).trans hk⟩
theorem PcsAt.of_block {w w' : World} {b o : Nat} {l : List Pc} (h : PcsAt w b o l) (e : w'.heap[b]? = w.heap[b]?) : PcsAt w' b o l := by
  have hc : ∀ j, w'.cell? ⟨b, j, none⟩ = w.cell? ⟨b, j, none⟩ := fun j => World.cell?_of_block (w := w) e
  intro i hi
  obtain ⟨h0, h1, h2, h3, h4⟩ := h i hi
  exact ⟨(hc _).trans h0, (hc _).trans h1, (hc _).trans h2, (hc _).trans h3, (hc _).trans h4⟩
theorem PusAt.of_block {w w' : World} {b o : Nat} {l : List Pu} (h : PusAt w b o l) (e : w'.heap[b]? = w.heap[b]?) : PusAt w' b o l := by
  have hc : ∀ j, w'.cell? ⟨b, j, none⟩ = w.cell? ⟨b, j, none⟩ := fun j => World.cell?_of_block (w := w) e
  intro i hi
  obtain ⟨h0, h1, h2, h3⟩ := h i hi
  exact ⟨(hc _).trans h0, (hc _).trans h1, (hc _).trans h2, (hc _).trans h3⟩
theorem MapAt.of_block {w w' : World} {B : Nat} {l : List Pc} (h : MapAt w B l) (e : w'.heap[B]? = w.heap[B]?) : MapAt w' B l := by
  obtain ⟨es, c, h1, h2⟩ := h
  exact ⟨es, c, e.trans h1, h2⟩
def encH (h : Ht) : Array Value := #[.agg #[.int .i64 h.1, .int .i64 h.2.tick, .int .i8 h.2.frm, .int .i64 h.2.who]]
theorem abides_below {B : Nat} {J : List Ht → World → Prop} (h : AbidesFrom B J) {s : List Ht} {W W' : World} (hs : J s W) (hb : Below W.heap.size W W') : J s W' :=
  h s W W' none hs ⟨hb.os, hb.tape, hb.output, hb.size, fun k hk _ => hb.block k hk⟩ (fun r e => by cases e)

theorem insL_append (lb : List Pc) (r : List Pu) : ∀ l : List Pu, insL lb (l ++ r) = insL lb l ++ insL lb r
  | [] => rfl
  | p :: l => by simp [insL, insL_append lb r l]
theorem insL_more {lb : List Pc} {l : List Pu} {k : Nat} {h : Ht} (e : insL lb (l.take (k + 1)) = insL lb (l.take k) ++ [h]) : (insL lb (l.take k)).length < (insL lb l).length := by
  have := congrArg List.length (insL_append lb (l.drop (k + 1)) (l.take (k + 1)))
  rw [List.take_append_drop, e] at this
  simp only [List.length_append, List.length_singleton] at this
  omega
set_option maxRecDepth 100000 in
set_option maxHeartbeats 4000000 in
/-- for every loop body that keeps the blocks that are read -/
theorem byPushes1_in (S : Nat → Prop) (n : Nat) (hn : 1 ≤ n) (lk Bg B b o m cap pb np pc : Nat) (pa : Option Addr) (hpa : np = 0 ∨ pa = some ⟨pb, 0, none⟩) (wd hi : Int) (lb : List Pc) (l : List Pu) (J Jx : List Ht → World → Prop) (W : World) (hJ : AbidesFrom W.heap.size J)
    (hm : lb.length = m) (hp : PcsAt W b o lb) (hb : b < W.heap.size) (hcap : m ≤ cap) (hmp : MapAt W B lb) (hok : ∀ q ∈ lb, q.ok = true) (hmm : m ≤ 1048576)
    (hnp : l.length = np) (hpu : PusAt W pb 0 l) (hpb : pb < W.heap.size) (hpl : ∀ q ∈ l, q.plain = true) (hnm : np ≤ 1048576)
    (hBg : W.heap[Bg]? = some (.cells #[.int .i8 wd, .int .i8 hi, .map (some B), .slice (some ⟨b, o, none⟩) m cap, .slice pa np pc] 90 (0, 0)))
    (s1 : S b) (s2 : S B) (s3 : S pb) (s4 : S Bg) (hS : ∀ k, S k → k < W.heap.size)
    (hY : ∀ pre x W1, J pre W1 → pre.length < (insL lb l).length → YieldAt Fence.wide (n - 1) Tryd.prog lk (encH x) W1 fun e W' =>
      (e = .returned (.bool true) ∧ J (pre ++ [x]) W' ∧ KSet S W1 W') ∨ (e = .returned (.bool false) ∧ Jx (pre ++ [x]) W'))
    (h0 : J [] W) :
    CallsIn Fence.wide n Tryd.prog 91 #[.func (.yield lk) #[] #[], .pointer (some ⟨Bg, 0, none⟩)] W fun e W' => (∃ v, e = .returned v) ∧
      ((∃ ys, ys = insL lb l ∧ J ys W') ∨ (∃ pre, True ∧ Jx pre W')) := by
  have Hm := Lib.hid hm
  have Hp := Lib.hid hp
  have Hmp := Lib.hid hmp
  have Hok := Lib.hid hok
  have Hn := Lib.hid hnp
  have Hpu := Lib.hid hpu
  have Hpl := Lib.hid hpl
  have HG := Lib.hid hBg
  have HJ := Lib.hid hJ
  have HS := Lib.hid hS
  have lg := blk_lt hBg
  have cg_0 : W.cell? ⟨Bg, 0, none⟩ = some (.int .i8 wd) := cell_of_row _ _ 0 _ _ _ hBg
  have cg_1 : W.cell? ⟨Bg, 1, none⟩ = some (.int .i8 hi) := cell_of_row _ _ 1 _ _ _ hBg
  have cg_2 : W.cell? ⟨Bg, 2, none⟩ = some (.map (some B)) := cell_of_row _ _ 2 _ _ _ hBg
  have cg_3 : W.cell? ⟨Bg, 3, none⟩ = some (.slice (some ⟨b, o, none⟩) m cap) := cell_of_row _ _ 3 _ _ _ hBg
  have cg_4 : W.cell? ⟨Bg, 4, none⟩ = some (.slice pa np pc) := cell_of_row _ _ 4 _ _ _ hBg
  clear hm hp hmp hok hnp hpu hpl hBg hJ hS
  refine callsIn_of_wp Tryd.func91 rfl trivial ?_ rfl
  simp only [Tryd.ntmps91, List.size_toArray, List.length_cons, List.length_nil, Nat.reduceAdd, Nat.reduceSub, Array.replicate_succ, Array.replicate_zero, List.push_toArray, List.append_toArray, List.nil_append, List.cons_append]
  gi_wp2
  gi_loopw [10] (fun i wr => ∃ k : Nat, k ≤ np ∧ i = .int .i64 k ∧ Hid (J (insL lb (l.take k)) wr) ∧ KSet S W wr) (fun i _ => np - (intOf i).toNat)
  case atStart => exact ⟨0, Nat.zero_le _, rfl, Lib.hid (by simpa [insL] using h0), KSet.refl _ _⟩
  case round =>
    obtain ⟨k, hk, rfl, hJs, hks⟩ := hrel
    clear cg_0 cg_1 cg_2 cg_3 cg_4
    have hGr := (hks.same Bg s4).trans HG.out
    have cg_0 : wr.cell? ⟨Bg, 0, none⟩ = some (.int .i8 wd) := cell_of_row _ _ 0 _ _ _ hGr
    have cg_1 : wr.cell? ⟨Bg, 1, none⟩ = some (.int .i8 hi) := cell_of_row _ _ 1 _ _ _ hGr
    have cg_2 : wr.cell? ⟨Bg, 2, none⟩ = some (.map (some B)) := cell_of_row _ _ 2 _ _ _ hGr
    have cg_3 : wr.cell? ⟨Bg, 3, none⟩ = some (.slice (some ⟨b, o, none⟩) m cap) := cell_of_row _ _ 3 _ _ _ hGr
    have cg_4 : wr.cell? ⟨Bg, 4, none⟩ = some (.slice pa np pc) := cell_of_row _ _ 4 _ _ _ hGr
    have lg2 := blk_lt hGr
    clear hGr
    by_cases hlt : k < np
    · obtain rfl : pa = some ⟨pb, 0, none⟩ := hpa.resolve_left (by omega)
      have hkl : k < l.length := by rw [Hn.out]; exact hlt
      have hpa := (Hpu.out.of_block (hks.same pb s3)) k hkl
      have hd : l.take (k + 1) = l.take k ++ [l[k]] := by rw [List.take_succ_eq_append_getElem hkl]
      have hpk := of_decide_eq_true (Hpl.out _ (List.getElem_mem hkl))
      generalize l[k] = p at hpa hd hpk
      obtain ⟨a0, a1, a2, a3⟩ := hpa
      simp only [Nat.zero_add] at a0 a1 a2 a3
      have HD := Lib.hid hd
      have hH : ∀ W2, Below wr.heap.size wr W2 → Calls Tryd.prog 78 #[.agg #[.int .i8 wd, .int .i8 hi, .map (some B), .slice (some ⟨b, o, none⟩) m cap, .slice (some ⟨pb, 0, none⟩) np pc], .agg #[.int .i8 p.x, .int .i8 p.y], .agg #[.int .i64 p.tick, .int .i8 p.side, .int .i64 (-1)]] W2 (HitPost (hitAtL lb p.x p.y ⟨p.tick, p.side, -1⟩) W2) := fun W2 hb2 =>
        hitAt_any B b o m cap (some ⟨pb, 0, none⟩) np pc wd hi p.x p.y lb ⟨p.tick, p.side, -1⟩ W2 Hm.out ((Hp.out.of_block (hks.same b s1)).below hb2 (Nat.lt_of_lt_of_le hb hks.size)) (Nat.lt_of_lt_of_le hb (Nat.le_trans hks.size hb2.size)) hcap ((Hmp.out.of_block (hks.same B s2)).below hb2) Hok.out hmm (by simp only; omega)
      have HH := Lib.hid hH
      clear hd hH
      gi_wp2_with fail
      refine ⟨trivial, (callsIn_wide.2 (HH.out _ (by repeat (first | with_reducible exact Below.refl _ _ | (with_reducible refine kSet ?_ ?hB _; case hB => (simp; try omega)) | with_reducible refine kAlloc ?_ _ | with_reducible refine Below.drew ?_ | with_reducible refine kDrewN ?_ _ | with_reducible refine kTrans ?_ (by assumption))))).mono ?_⟩
      rintro e w2 ⟨h, ok, rfl, hL, hb2⟩
      have hB2 : Below wr.heap.size wr w2 := kTrans (by repeat (first | with_reducible exact Below.refl _ _ | (with_reducible refine kSet ?_ ?hB _; case hB => (simp; try omega)) | with_reducible refine kAlloc ?_ _ | with_reducible refine Below.drew ?_ | with_reducible refine kDrewN ?_ _ | with_reducible refine kTrans ?_ (by assumption))) hb2
      have hL2 : insL lb (l.take (k + 1)) = insL lb (l.take k) ++ hitAtL lb p.x p.y ⟨p.tick, p.side, -1⟩ := by rw [HD.out, insL_snoc]
      have HB2 := Lib.hid hB2
      clear hb2 a0 a1 a2 a3 HH cg_0 cg_1 cg_2 cg_3 cg_4 hpk
      cases ok with
      | false =>
        rw [hL] at hL2
        have HL2 := Lib.hid hL2
        have J2 := Lib.hid (abides_below HJ.out hJs.out (kAlloc HB2.out (.cells #[.int .i64 h.1, .int .i64 h.2.tick, .int .i8 h.2.frm, .int .i64 h.2.who] 107)))
        have K2 := hks.trans (KSet.of_below (fun k hk => Nat.lt_of_lt_of_le (HS.out k hk) hks.size) (kAlloc HB2.out (.cells #[.int .i64 h.1, .int .i64 h.2.tick, .int .i8 h.2.frm, .int .i64 h.2.who] 107)))
        clear hL hL2 hB2
        gi_wp2
        refine ⟨fun _ h => (by cases h), ?_⟩
        gi_wp2
        go_roundw
        case rel => exact ⟨k + 1, by omega, by go_num, Lib.hid (by rw [HL2.out]; simpa using J2.out), K2⟩
        case measure => simp [intOf]; omega
      | true =>
        rw [hL] at hL2
        have HL2 := Lib.hid hL2
        have J2 := Lib.hid (abides_below HJ.out hJs.out (kAlloc HB2.out (.cells #[.int .i64 h.1, .int .i64 h.2.tick, .int .i8 h.2.frm, .int .i64 h.2.who] 107)))
        have K2 := hks.trans (KSet.of_below (fun k hk => Nat.lt_of_lt_of_le (HS.out k hk) hks.size) (kAlloc HB2.out (.cells #[.int .i64 h.1, .int .i64 h.2.tick, .int .i8 h.2.frm, .int .i64 h.2.who] 107)))
        obtain ⟨fn, tmps, assign, body, hy, hR⟩ := hY _ h _ J2.out (insL_more (by simpa using HL2.out))
        unfold encH at hy
        clear hL hL2 hB2
        gi_wp2
        refine hR.mono ?_
        rintro e W3 (⟨rfl, hJ3, hk3⟩ | ⟨rfl, hJx3⟩)
        · have J3 := Lib.hid hJ3
          clear hJ3
          gi_wp2
          go_roundw
          case rel => exact ⟨k + 1, by omega, by go_num, Lib.hid (by rw [HL2.out]; simpa using J3.out), K2.trans hk3⟩
          case measure => simp [intOf]; omega
        · gi_wp2
          refine bodyPost_ret (results_none rfl _ _ _) rfl ?_
          exact ⟨⟨_, rfl⟩, .inr ⟨_, trivial, hJx3⟩⟩
    · obtain rfl : k = np := by omega
      have hall : l.take k = l := List.take_of_length_le (by rw [Hn.out]; omega)
      have HA := Lib.hid hall
      clear hall cg_0 cg_1 cg_2 cg_3 cg_4
      gi_wp2
      go_end0
      exact ⟨⟨_, rfl⟩, .inl ⟨_, by rw [HA.out], hJs.out⟩⟩
end Go.Proofs.YtflkfkbdgekpkaaDoor

/- The program's iterator over the hits of a fall. -/
namespace Go.Proofs.YtflkfkbdgekpkaaDoor
open Go.ChangeShapes Go.WideShapes Go.ChangeAt Go.RowKit Go.Shelf
set_option linter.unusedVariables false
set_option linter.unusedSimpArgs false
attribute [local go_sem] Oper.semAt_some

set_option maxHeartbeats 1000000 in
theorem opposite_any (e : Int) (w : World) (he : 0 ≤ e ∧ e ≤ 3) : Calls Tryd.prog 80 #[.int .i8 e] w fun r w' => r = .returned (.int .i8 ((e + 2) % 4)) ∧ w = w' := by
  have h1 : e = 0 ∨ e = 1 ∨ e = 2 ∨ e = 3 := by omega
  clear he
  rcases h1 with rfl | rfl | rfl | rfl
  all_goals
    go_enter Tryd.func80, Tryd.ntmps80
    go_wp2
    go_ret
    exact ⟨rfl, rfl⟩
theorem box4_set {w : World} {b : Nat} {t : TypeId} {fr : Nat × Nat} {x y z u x' y' z' u' : Value} (h : w.heap[b]? = some (.cells #[x, y, z, u] t fr)) : ((((w.setCell ⟨b, 0, none⟩ x').setCell ⟨b, 1, none⟩ y').setCell ⟨b, 2, none⟩ z').setCell ⟨b, 3, none⟩ u').heap[b]? = some (.cells #[x', y', z', u'] t fr) :=
  blk_set_same' (blk_set_same' (blk_set_same' (blk_set_same' h)))
theorem index_hit0 (a b c d : Value) (w : World) : (Instr.index 92 (.agg #[a, b, c, d]) (.int .i64 0)).run Tryd.prog w = .ok a w := by kernel_rfl
theorem index_hit1 (a b c d : Value) (w : World) : (Instr.index 92 (.agg #[a, b, c, d]) (.int .i64 1)).run Tryd.prog w = .ok b w := by kernel_rfl
theorem index_hit2 (a b c d : Value) (w : World) : (Instr.index 92 (.agg #[a, b, c, d]) (.int .i64 2)).run Tryd.prog w = .ok c w := by kernel_rfl
theorem index_hit3 (a b c d : Value) (w : World) : (Instr.index 92 (.agg #[a, b, c, d]) (.int .i64 3)).run Tryd.prog w = .ok d w := by kernel_rfl
theorem index_hits (f : Int → Bool) (k : Nat) (hk : k < 4) (w : World) : (Instr.index 92 (.agg #[.bool (f 0), .bool (f 1), .bool (f 2), .bool (f 3)]) (.int .i64 k)).run Tryd.prog w = .ok (.bool (f k)) w := by
  have : k = 0 ∨ k = 1 ∨ k = 2 ∨ k = 3 := by omega
  rcases this with rfl | rfl | rfl | rfl
  · exact index_hit0 _ _ _ _ w
  · exact index_hit1 _ _ _ _ w
  · exact index_hit2 _ _ _ _ w
  · exact index_hit3 _ _ _ _ w
theorem outU_more {lb : List Pc} {p : Pc} {i : Int} {f : Fl} {k : Nat} {h : Ht} (hk : k < 4) (e : outU lb p i f (k + 1) = outU lb p i f k ++ [h]) : (outU lb p i f k).length < (outU lb p i f 4).length := by
  have h1 : ∀ j, (outU lb p i f (k + 1)).length ≤ (outU lb p i f (k + 1 + j)).length := by
    intro j
    induction j with
    | zero => exact Nat.le_refl _
    | succ j ih =>
      refine Nat.le_trans ih ?_
      show _ ≤ (outU lb p i f (k + 1 + j) ++ outS lb p i f (k + 1 + j : Nat)).length
      rw [List.length_append]; omega
  have h2 := h1 (3 - k)
  rw [show k + 1 + (3 - k) = 4 by omega, e, List.length_append] at h2
  simp only [List.length_singleton] at h2
  omega
set_option maxRecDepth 100000 in
set_option maxHeartbeats 16000000 in
/-- for every loop body that keeps the blocks that are read -/
theorem byFall1_in (S : Nat → Prop) (n : Nat) (hn : 1 ≤ n) (lk Bg Bi Bf B b o m cap : Nat) (pa : Option Addr) (pn pc : Nat) (wd hi : Int) (lb : List Pc) (j : Nat) (p : Pc) (f : Fl) (J Jx : List Ht → World → Prop) (W : World) (hJ : AbidesFrom W.heap.size J)
    (hm : lb.length = m) (hp : PcsAt W b o lb) (hb : b < W.heap.size) (hcap : m ≤ cap) (hmp : MapAt W B lb) (hok : ∀ q ∈ lb, q.ok = true) (hmm : m ≤ 1048576) (hj : j < m) (hpj : ∀ h : j < lb.length, lb[j] = p)
    (hf0 : 0 ≤ f.tick) (hf1 : f.tick ≤ 1048576) (hs : 0 ≤ f.frm ∧ f.frm ≤ 3)
    (hBg : W.heap[Bg]? = some (.cells #[.int .i8 wd, .int .i8 hi, .map (some B), .slice (some ⟨b, o, none⟩) m cap, .slice pa pn pc] 90 (0, 0)))
    (hBf : W.heap[Bf]? = some (.cells #[.int .i64 f.tick, .int .i8 f.frm, .int .i64 f.who] 73 (0, 0))) (hBi : W.heap[Bi]? = some (.cells #[.int .i64 j] 2 (0, 0)))
    (s1 : S b) (s2 : S B) (s3 : S Bf) (s4 : S Bg) (s5 : S Bi) (hS : ∀ k, S k → k < W.heap.size)
    (hY : ∀ pre x W1, J pre W1 → pre.length < (outU lb p j f 4).length → YieldAt Fence.wide (n - 1) Tryd.prog lk (encH x) W1 fun e W' =>
      (e = .returned (.bool true) ∧ J (pre ++ [x]) W' ∧ KSet S W1 W') ∨ (e = .returned (.bool false) ∧ Jx (pre ++ [x]) W'))
    (h0 : J [] W) :
    CallsIn Fence.wide n Tryd.prog 77 #[.func (.yield lk) #[] #[], .pointer (some ⟨Bf, 0, none⟩), .pointer (some ⟨Bg, 0, none⟩), .pointer (some ⟨Bi, 0, none⟩)] W fun e W' => (∃ v, e = .returned v) ∧
      ((∃ ys, ys = outU lb p j f 4 ∧ J ys W') ∨ (∃ pre, True ∧ Jx pre W')) := by
  have hjl : j < lb.length := by omega
  have hpp := hp j hjl
  rw [hpj hjl] at hpp
  have hpk : p.ok = true := by have := hok _ (List.getElem_mem hjl); rw [hpj hjl] at this; exact this
  have hpo := of_decide_eq_true hpk
  have hk1 : 0 ≤ p.kind ∧ p.kind ≤ 5 := by omega
  have ht1 : 0 ≤ p.turn ∧ p.turn ≤ 3 := by omega
  obtain ⟨a0, a1, a2, a3, a4⟩ := hpp
  have Hm := Lib.hid hm
  have Hp := Lib.hid hp
  have Hmp := Lib.hid hmp
  have Hok := Lib.hid hok
  have HG := Lib.hid hBg
  have HI := Lib.hid hBi
  have HF := Lib.hid hBf
  have HJ := Lib.hid hJ
  have HS := Lib.hid hS
  have hf0' := reac_1
  have cg_3 : W.cell? ⟨Bg, 3, none⟩ = some (.slice (some ⟨b, o, none⟩) m cap) := cell_of_row _ _ 3 _ _ _ hBg
  have cf_0 : W.cell? ⟨Bf, 0, none⟩ = some (.int .i64 f.tick) := cell_of_row _ _ 0 _ _ _ hBf
  have cf_1 : W.cell? ⟨Bf, 1, none⟩ = some (.int .i8 f.frm) := cell_of_row _ _ 1 _ _ _ hBf
  have ci_0 : W.cell? ⟨Bi, 0, none⟩ = some (.int .i64 j) := cell_of_row _ _ 0 _ _ _ hBi
  have lg := blk_lt hBg
  have lf := blk_lt hBf
  have li := blk_lt hBi
  have hjc : (j : Int) < (m : Int) := by omega
  have hft : ¬ f.tick < 0 := by omega
  have hd : 1 ≤ p.delay ∧ p.delay ≤ 9 := by omega
  have hwd : wrap64 p.delay = p.delay := by unfold wrap64; omega
  have hwt : wrap64 (f.tick + p.delay) = f.tick + p.delay := by unfold wrap64; omega
  have hpx : (0 ≤ p.x ∧ p.x ≤ 23) ∧ 0 ≤ p.y ∧ p.y ≤ 23 := by omega
  have HR := Lib.hid (fun W2 => reactionOf_any p f.frm W2 hk1 ht1 hs)
  clear hm hp hmp hok hBg hBi hBf hJ hS hpj hpk hpo
  refine callsIn_of_wp Tryd.func77 rfl trivial ?_ rfl
  simp only [Tryd.ntmps77, List.size_toArray, List.length_cons, List.length_nil, Nat.reduceAdd, Nat.reduceSub, Array.replicate_succ, Array.replicate_zero, List.push_toArray, List.append_toArray, List.nil_append, List.cons_append]
  gi_wp2_with fail
  refine ⟨trivial, (callsIn_wide.2 (HR.out _)).mono ?_⟩
  rintro e w1 ⟨rfl, hb1⟩
  have hB1 : Below W.heap.size W w1 := kTrans (by repeat (first | with_reducible exact Below.refl _ _ | (with_reducible refine kSet ?_ ?hB _; case hB => (simp; try omega)) | with_reducible refine kAlloc ?_ _ | with_reducible refine Below.drew ?_ | with_reducible refine kDrewN ?_ _ | with_reducible refine kTrans ?_ (by assumption))) hb1
  have gp0 : w1.heap[W.heap.size]? = some (.cells #[.int .i8 p.x, .int .i8 p.y, .int .i8 p.kind, .int .i8 p.turn, .int .i8 p.delay] 71 (0, 0)) := blk_below (heap_alloc_new _ _) hb1
  have GP := Lib.hid gp0
  have K1 := KSet.of_below HS.out hB1
  have J1 := Lib.hid (abides_below HJ.out h0 hB1)
  clear hb1 hB1 gp0 HR a0 a1 a2 a3 a4 cg_3 cf_0 cf_1 ci_0 h0
  obtain ⟨gp, hgp⟩ : ∃ gp, gp = W.heap.size := ⟨_, rfl⟩
  have HGP := Lib.hid (show W.heap.size ≤ gp by omega)
  rw [← hgp] at GP ⊢
  clear hgp
  gi_wp2
  gi_loopw [31] (fun i wr => ∃ k : Nat, k ≤ 4 ∧ i = .int .i64 k ∧ Hid (J (outU lb p j f k) wr) ∧ Hid (wr.heap[gp]? = some (.cells #[.int .i8 p.x, .int .i8 p.y, .int .i8 p.kind, .int .i8 p.turn, .int .i8 p.delay] 71 (0, 0))) ∧ KSet S W wr) (fun i _ => 4 - (intOf i).toNat)
  case atStart => exact ⟨0, by omega, rfl, J1, GP, K1⟩
  case round =>
    clear J1 GP K1
    obtain ⟨k, hk, rfl, hJs, GP, hks⟩ := hrel
    by_cases hlt : k < 4
    · have hix := index_hits (fun s => rxH p.kind p.turn f.frm s) k hlt
      cases g : rxH p.kind p.turn f.frm k with
      | false =>
        rw [g] at hix
        have HN : Hid (outU lb p j f (k + 1) = outU lb p j f k) := Lib.hid (by show outU lb p j f k ++ outS lb p j f k = _; unfold outS; rw [g]; simp)
        clear g
        gi_wp2
        go_roundw
        case rel => exact ⟨k + 1, by omega, by go_num, Lib.hid (by rw [HN.out]; exact hJs.out), GP, hks⟩
        case measure => simp [intOf]; omega
      | true =>
        rw [g] at hix
        have HN : Hid (outU lb p j f (k + 1) = outU lb p j f k ++ hitAtL lb (stepX p.x k) (stepY p.y k) ⟨f.tick + p.delay, ((k : Int) + 2) % 4, j⟩) := Lib.hid (by show outU lb p j f k ++ outS lb p j f k = _; unfold outS; rw [g]; simp)
        have hGr := (hks.same Bg s4).trans HG.out
        have c0_0 : wr.cell? ⟨Bg, 0, none⟩ = some (.int .i8 wd) := cell_of_row _ _ 0 _ _ _ hGr
        have c0_1 : wr.cell? ⟨Bg, 1, none⟩ = some (.int .i8 hi) := cell_of_row _ _ 1 _ _ _ hGr
        have c0_2 : wr.cell? ⟨Bg, 2, none⟩ = some (.map (some B)) := cell_of_row _ _ 2 _ _ _ hGr
        have c0_3 : wr.cell? ⟨Bg, 3, none⟩ = some (.slice (some ⟨b, o, none⟩) m cap) := cell_of_row _ _ 3 _ _ _ hGr
        have c0_4 : wr.cell? ⟨Bg, 4, none⟩ = some (.slice pa pn pc) := cell_of_row _ _ 4 _ _ _ hGr
        have c1_0 : wr.cell? ⟨gp, 0, none⟩ = some (.int .i8 p.x) := cell_of_row _ _ 0 _ _ _ GP.out
        have c1_1 : wr.cell? ⟨gp, 1, none⟩ = some (.int .i8 p.y) := cell_of_row _ _ 1 _ _ _ GP.out
        have c2_0 : wr.cell? ⟨Bi, 0, none⟩ = some (.int .i64 j) := cell_of_row _ _ 0 _ _ _ ((hks.same Bi s5).trans HI.out)
        have lb0_0 := blk_lt hGr
        have lb1_0 := blk_lt GP.out
        have lb2_0 := blk_lt ((hks.same Bi s5).trans HI.out)
        have HH := Lib.hid (fun W2 (hb2 : Below wr.heap.size wr W2) => hitAt_any B b o m cap pa pn pc wd hi (stepX p.x k) (stepY p.y k) lb ⟨f.tick + p.delay, ((k : Int) + 2) % 4, j⟩ W2 Hm.out ((Hp.out.of_block (hks.same b s1)).below hb2 (Nat.lt_of_lt_of_le hb hks.size)) (Nat.lt_of_lt_of_le hb (Nat.le_trans hks.size hb2.size)) hcap ((Hmp.out.of_block (hks.same B s2)).below hb2) Hok.out hmm (by simp only; omega))
        clear g hGr
        gi_wp2
        refine wpIn_wide.2 ?_
        go_cut [10, 11] (fun s1 s2 wx => ∃ (xb : Nat) (h : Ht) (ok : Bool), s1 = .pointer (some ⟨xb, 0, none⟩) ∧ s2 = .bool ok ∧ Hid (hitAtL lb (stepX p.x k) (stepY p.y k) ⟨f.tick + p.delay, ((k : Int) + 2) % 4, j⟩ = (if ok = true then [h] else [])) ∧ wx.heap[xb]? = some (.cells #[.int .i64 h.1, .int .i64 h.2.tick, .int .i8 h.2.frm, .int .i64 h.2.who] 107 (0, 0)) ∧ Below wr.heap.size wr wx)
        case first =>
          go_region_held3 (fun w' => w'.cell? ⟨Bg, 0, none⟩ = some (.int .i8 wd) ∧ w'.cell? ⟨Bg, 1, none⟩ = some (.int .i8 hi) ∧ w'.cell? ⟨Bg, 2, none⟩ = some (.map (some B)) ∧ w'.cell? ⟨Bg, 3, none⟩ = some (.slice (some ⟨b, o, none⟩) m cap) ∧ w'.cell? ⟨Bg, 4, none⟩ = some (.slice pa pn pc) ∧ w'.cell? ⟨gp, 0, none⟩ = some (.int .i8 p.x) ∧ w'.cell? ⟨gp, 1, none⟩ = some (.int .i8 p.y) ∧ w'.cell? ⟨Bi, 0, none⟩ = some (.int .i64 j)) (go_keep)
            (first
            | (go_at_call 80
               refine (opposite_any k _ (by omega)).mono ?_
               rintro e v9 ⟨rfl, rfl⟩
               skip)
            | (go_at_call 79
               refine (step_any p.x p.y k _ (by omega) (by omega) (by omega)).mono ?_
               rintro e v1 ⟨rfl, b1⟩
               have nn1 : wr.heap.size ≤ v1.heap.size := Nat.le_trans (by first | exact Nat.le_refl _ | simp) b1.size
               try have ox := Lib.hid (show v1.heap[wr.heap.size]? = some (.cells #[.int .i64 0, .int .i64 0, .int .i8 0, .int .i64 0] 107 (0, 0)) from blk_below (heap_alloc_new wr.drew (.cells #[.int .i64 0, .int .i64 0, .int .i8 0, .int .i64 0] 107)) b1)
               have lb0_1 : Bg < v1.heap.size := Nat.lt_of_lt_of_le lb0_0 nn1
               have c0_0 := (b1.cell (p := ⟨Bg, 0, none⟩) (by first | omega | (simp; omega))).trans (by first | exact c0_0 | exact (World.cell?_alloc_lt _ _ _ lb0_0).trans c0_0)
               have c0_1 := (b1.cell (p := ⟨Bg, 1, none⟩) (by first | omega | (simp; omega))).trans (by first | exact c0_1 | exact (World.cell?_alloc_lt _ _ _ lb0_0).trans c0_1)
               have c0_2 := (b1.cell (p := ⟨Bg, 2, none⟩) (by first | omega | (simp; omega))).trans (by first | exact c0_2 | exact (World.cell?_alloc_lt _ _ _ lb0_0).trans c0_2)
               have c0_3 := (b1.cell (p := ⟨Bg, 3, none⟩) (by first | omega | (simp; omega))).trans (by first | exact c0_3 | exact (World.cell?_alloc_lt _ _ _ lb0_0).trans c0_3)
               have c0_4 := (b1.cell (p := ⟨Bg, 4, none⟩) (by first | omega | (simp; omega))).trans (by first | exact c0_4 | exact (World.cell?_alloc_lt _ _ _ lb0_0).trans c0_4)
               have lb1_1 : gp < v1.heap.size := Nat.lt_of_lt_of_le lb1_0 nn1
               have c1_0 := (b1.cell (p := ⟨gp, 0, none⟩) (by first | omega | (simp; omega))).trans (by first | exact c1_0 | exact (World.cell?_alloc_lt _ _ _ lb1_0).trans c1_0)
               have c1_1 := (b1.cell (p := ⟨gp, 1, none⟩) (by first | omega | (simp; omega))).trans (by first | exact c1_1 | exact (World.cell?_alloc_lt _ _ _ lb1_0).trans c1_1)
               have lb2_1 : Bi < v1.heap.size := Nat.lt_of_lt_of_le lb2_0 nn1
               have c2_0 := (b1.cell (p := ⟨Bi, 0, none⟩) (by first | omega | (simp; omega))).trans (by first | exact c2_0 | exact (World.cell?_alloc_lt _ _ _ lb2_0).trans c2_0))
            | (go_at_call 78
               refine (HH.out _ (by repeat (first | with_reducible exact Below.refl _ _ | (with_reducible refine kSet ?_ ?hB _; case hB => (simp; try omega)) | with_reducible refine kAlloc ?_ _ | with_reducible refine Below.drew ?_ | with_reducible refine kDrewN ?_ _ | with_reducible refine kTrans ?_ (by assumption)))).mono ?_
               rintro e v2 ⟨h, ok, rfl, hL, b2⟩
               have HL := Lib.hid hL
               clear hL
               have nn2 : v1.heap.size ≤ v2.heap.size := Nat.le_trans (by first | exact Nat.le_refl _ | simp) b2.size
               try have ox := Lib.hid (show v2.heap[v1.heap.size]? = some (.cells #[.int .i64 0, .int .i64 0, .int .i8 0, .int .i64 0] 107 (0, 0)) from blk_below (heap_alloc_new v1 (.cells #[.int .i64 0, .int .i64 0, .int .i8 0, .int .i64 0] 107)) b2)
               try have ox := Lib.hid (blk_below ox.out b2)
               have lb0_2 : Bg < v2.heap.size := Nat.lt_of_lt_of_le lb0_1 nn2
               have c0_0 := (b2.cell (p := ⟨Bg, 0, none⟩) (by first | omega | (simp; omega))).trans (by first | exact c0_0 | exact (World.cell?_alloc_lt _ _ _ lb0_1).trans c0_0)
               have c0_1 := (b2.cell (p := ⟨Bg, 1, none⟩) (by first | omega | (simp; omega))).trans (by first | exact c0_1 | exact (World.cell?_alloc_lt _ _ _ lb0_1).trans c0_1)
               have c0_2 := (b2.cell (p := ⟨Bg, 2, none⟩) (by first | omega | (simp; omega))).trans (by first | exact c0_2 | exact (World.cell?_alloc_lt _ _ _ lb0_1).trans c0_2)
               have c0_3 := (b2.cell (p := ⟨Bg, 3, none⟩) (by first | omega | (simp; omega))).trans (by first | exact c0_3 | exact (World.cell?_alloc_lt _ _ _ lb0_1).trans c0_3)
               have c0_4 := (b2.cell (p := ⟨Bg, 4, none⟩) (by first | omega | (simp; omega))).trans (by first | exact c0_4 | exact (World.cell?_alloc_lt _ _ _ lb0_1).trans c0_4)
               have lb1_2 : gp < v2.heap.size := Nat.lt_of_lt_of_le lb1_1 nn2
               have c1_0 := (b2.cell (p := ⟨gp, 0, none⟩) (by first | omega | (simp; omega))).trans (by first | exact c1_0 | exact (World.cell?_alloc_lt _ _ _ lb1_1).trans c1_0)
               have c1_1 := (b2.cell (p := ⟨gp, 1, none⟩) (by first | omega | (simp; omega))).trans (by first | exact c1_1 | exact (World.cell?_alloc_lt _ _ _ lb1_1).trans c1_1)
               have lb2_2 : Bi < v2.heap.size := Nat.lt_of_lt_of_le lb2_1 nn2
               have c2_0 := (b2.cell (p := ⟨Bi, 0, none⟩) (by first | omega | (simp; omega))).trans (by first | exact c2_0 | exact (World.cell?_alloc_lt _ _ _ lb2_1).trans c2_0)
               try have y0 := cell_of_row _ _ 0 _ _ _ ox.out
               try have y1 := cell_of_row _ _ 1 _ _ _ ox.out
               try have y2 := cell_of_row _ _ 2 _ _ _ ox.out
               try have y3 := cell_of_row _ _ 3 _ _ _ ox.out
               try have yf := fun j => frozen_of_row _ _ j _ _ ox.out
               have na0_0 : ¬ Bg = wr.heap.size := by omega
               have na0_1 : ¬ Bg = v1.heap.size := by omega
               have na0_2 : ¬ Bg = v2.heap.size := by omega
               have na1_0 : ¬ gp = wr.heap.size := by omega
               have na1_1 : ¬ gp = v1.heap.size := by omega
               have na1_2 : ¬ gp = v2.heap.size := by omega
               have na2_0 : ¬ Bi = wr.heap.size := by omega
               have na2_1 : ¬ Bi = v1.heap.size := by omega
               have na2_2 : ¬ Bi = v2.heap.size := by omega
               have nb0_0 : ¬ wr.heap.size = Bg := by omega
               have nb0_1 : ¬ v1.heap.size = Bg := by omega
               have nb0_2 : ¬ v2.heap.size = Bg := by omega
               have nb1_0 : ¬ wr.heap.size = gp := by omega
               have nb1_1 : ¬ v1.heap.size = gp := by omega
               have nb1_2 : ¬ v2.heap.size = gp := by omega
               have nb2_0 : ¬ wr.heap.size = Bi := by omega
               have nb2_1 : ¬ v1.heap.size = Bi := by omega
               have nb2_2 : ¬ v2.heap.size = Bi := by omega))
          · go_wp2_with fail
            go_meet
            exact ⟨v2.heap.size, h, ok, rfl, rfl, HL, heap_alloc_new _ _, kAlloc (kTrans (kTrans (Below.drew (Below.refl _ _)) b1) b2) _⟩
          · have hc : v1.heap.size + 1 ≤ v2.heap.size := by simpa using b2.size
            go_wp2_with fail
            go_meet
            exact ⟨v1.heap.size, h, ok, rfl, rfl, HL, box4_set ox.out, kSet (kSet (kSet (kSet (kTrans (kAlloc (kTrans (Below.drew (Below.refl _ _)) b1) _) b2) (show wr.heap.size ≤ v1.heap.size by omega) _) (show wr.heap.size ≤ v1.heap.size by omega) _) (show wr.heap.size ≤ v1.heap.size by omega) _) (show wr.heap.size ≤ v1.heap.size by omega) _⟩
          · have hc : v1.heap.size + 1 ≤ v2.heap.size := by simpa using b2.size
            go_wp2_with fail
            go_meet
            exact ⟨v1.heap.size, h, ok, rfl, rfl, HL, box4_set ox.out, kSet (kSet (kSet (kSet (kTrans (kAlloc (kTrans (Below.drew (Below.refl _ _)) b1) _) b2) (show wr.heap.size ≤ v1.heap.size by omega) _) (show wr.heap.size ≤ v1.heap.size by omega) _) (show wr.heap.size ≤ v1.heap.size by omega) _) (show wr.heap.size ≤ v1.heap.size by omega) _⟩
          · have hc : wr.heap.size + 1 ≤ v1.heap.size := by simpa using b1.size
            go_wp2_with fail
            go_meet
            exact ⟨wr.heap.size, h, ok, rfl, rfl, HL, box4_set ox.out, kSet (kSet (kSet (kSet (kTrans (kTrans (kAlloc (Below.drew (Below.refl _ _)) _) b1) b2) (Nat.le_refl _) _) (Nat.le_refl _) _) (Nat.le_refl _) _) (Nat.le_refl _) _⟩
        case rest =>
          obtain ⟨xb, h, ok, rfl, rfl, hL, hx, hB⟩ := hcut
          obtain ⟨w2, rfl⟩ : ∃ W : World, W = wc := ⟨_, rfl⟩
          have cx_0 : w2.cell? ⟨xb, 0, none⟩ = some (.int .i64 h.1) := cell_of_row _ _ 0 _ _ _ hx
          have cx_1 : w2.cell? ⟨xb, 1, none⟩ = some (.int .i64 h.2.tick) := cell_of_row _ _ 1 _ _ _ hx
          have cx_2 : w2.cell? ⟨xb, 2, none⟩ = some (.int .i8 h.2.frm) := cell_of_row _ _ 2 _ _ _ hx
          have cx_3 : w2.cell? ⟨xb, 3, none⟩ = some (.int .i64 h.2.who) := cell_of_row _ _ 3 _ _ _ hx
          have J2 := Lib.hid (abides_below HJ.out hJs.out hB)
          have K2 := hks.trans (KSet.of_below (fun k hk => Nat.lt_of_lt_of_le (HS.out k hk) hks.size) hB)
          have G2 := Lib.hid (blk_below GP.out hB)
          have HL2 := HN.out
          rw [hL.out] at HL2
          have HL3 := Lib.hid HL2
          clear hL hx hB HL2 HN HH c0_0 c0_1 c0_2 c0_3 c0_4 c1_0 c1_1 c2_0 GP hJs
          cases ok with
          | false =>
            gi_wp2
            refine ⟨fun _ h => (by cases h), ?_⟩
            gi_wp2
            go_roundw
            case rel => exact ⟨k + 1, by omega, by go_num, Lib.hid (by rw [HL3.out]; simpa using J2.out), G2, K2⟩
            case measure => simp [intOf]; omega
          | true =>
            obtain ⟨fn, tmps, assign, body, hy, hR⟩ := hY _ h _ J2.out (outU_more hlt (by simpa using HL3.out))
            unfold encH at hy
            gi_wp2
            refine hR.mono ?_
            rintro e W3 (⟨rfl, hJ3, hk3⟩ | ⟨rfl, hJx3⟩)
            · have J3 := Lib.hid hJ3
              have G3 := Lib.hid (hk3.cells gp _ _ _ G2.out (by decide) (by decide))
              clear hJ3 cx_0 cx_1 cx_2 cx_3
              gi_wp2
              go_roundw
              case rel => exact ⟨k + 1, by omega, by go_num, Lib.hid (by rw [HL3.out]; simpa using J3.out), G3, K2.trans hk3⟩
              case measure => simp [intOf]; omega
            · gi_wp2
              refine bodyPost_ret (results_none rfl _ _ _) rfl ?_
              exact ⟨⟨_, rfl⟩, .inr ⟨_, trivial, hJx3⟩⟩
    · obtain rfl : k = 4 := by omega
      gi_wp2
      go_end0
      exact ⟨⟨_, rfl⟩, .inl ⟨_, rfl, hJs.out⟩⟩
end Go.Proofs.YtflkfkbdgekpkaaDoor

/- The program's queued: the hits that an iterator yields are put into their places. -/
namespace Go.Proofs.YtflkfkbdgekpkaaDoor
open Go.ChangeShapes Go.WideShapes Go.ChangeAt Go.RowKit Go.Shelf
set_option linter.unusedVariables false
set_option linter.unusedSimpArgs false
attribute [local go_sem] Oper.semAt_some

theorem QAt.form {T : TypeId} {w : World} {base : Nat} {v : Value} {Q : List Ht} (h : QAt T w base v Q) : ∃ a c, v = .slice a Q.length c := by
  rcases h with ⟨rfl, a, rfl⟩ | ⟨g, o, c, rfl, _⟩
  · exact ⟨a, 0, rfl⟩
  · exact ⟨_, c, rfl⟩
theorem inss_snoc (Q L : List Ht) (h : Ht) : inss Q (L ++ [h]) = insH (inss Q L) h := by simp [inss]
/-- the row of a slice lies, if there is one that may be written -/
theorem QAt.own {T : TypeId} {w : World} {base : Nat} {v : Value} {Q : List Ht} (h : QAt T w base v Q) : (ownR v = none) ∨ ∃ g cs, ownR v = some g ∧ base ≤ g ∧ w.heap[g]? = some (.cells cs T (0, 0)) := by
  rcases h with ⟨rfl, a, rfl⟩ | ⟨g, o, c, rfl, hb, h0, _, A, C, hg, _⟩
  · exact .inl (ownR_zero _ _)
  · exact .inr ⟨g, _, ownR_some h0, hb, hg⟩
/-- a new place of the row, or the old one -/
def OwnTo (b : Nat) (v v' : Value) : Prop := ownR v' = ownR v ∨ ∃ g, ownR v' = some g ∧ b ≤ g
/-- what lies between two hits: the variable, the row, all else as it was -/
def QuI (T U : TypeId) (base : Nat) (v : Value) (Q : List Ht) (w : World) (pre : List Ht) (W : World) : Prop :=
  ∃ v', W.heap[w.heap.size]? = some (.cells #[v'] U (0, 0)) ∧ QAt T W base v' (inss Q pre) ∧ w.grownBy W (ownR v) ∧ OwnTo (w.heap.size + 1) v v'
theorem QAt.kept2 {T : TypeId} {w w' : World} {base : Nat} {v : Value} {Q : List Ht} {row : Option Nat} (h : QAt T w base v Q) (hg : w.grownBy w' row) (hr : ∀ r, row = some r → ∃ o : Obj, w.heap[r]? = some o ∧ o.isCells = false) : QAt T w' base v Q := by
  rcases h with h | ⟨g, o, c, rfl, hb, h0, hc, hq⟩
  · exact .inl h
  · refine .inr ⟨g, o, c, rfl, hb, h0, hc, hq.of_block (hg.block g hq.lt (fun e => ?_))⟩
    obtain ⟨ob, h1, h2⟩ := hr g e.symm
    obtain ⟨A, C, h3, _⟩ := hq
    rw [h3] at h1
    cases h1
    cases h2
theorem quI_own {T U : TypeId} {base : Nat} {v : Value} {Q : List Ht} {w : World} {B : Nat} (hB : w.heap.size + 1 ≤ B) : OwnFrom B (QuI T U base v Q w) := by
  intro s W W' row hs hg hr
  obtain ⟨v', h1, h2, h3, h4⟩ := hs
  refine ⟨v', ?_, h2.kept2 hg (fun r e => (hr r e).2), ?_, h4⟩
  · refine (hg.block _ (blk_lt h1) (fun e => ?_)).trans h1
    have := (hr _ e.symm).1
    omega
  · refine ⟨hg.os.trans h3.os, hg.tape.trans h3.tape, hg.output.trans h3.output, Nat.le_trans h3.size hg.size, fun k hk hne => ?_⟩
    refine (hg.block k (Nat.lt_of_lt_of_le hk h3.size) (fun e => ?_)).trans (h3.block k hk hne)
    have := (hr _ e.symm).1
    omega

set_option maxRecDepth 100000 in
set_option maxHeartbeats 4000000 in
theorem queued_any (S : Nat → Prop) (gf : Nat) (lb : Array Value) (eg : ∀ args w, (callFunc gf args).run Tryd.prog w = .ok (.enter gf args) w) (L : List Ht) (base : Nat) (v : Value) (Q : List Ht) (w : World) (hq : QAt 107 w base v Q) (hbase : base ≤ w.heap.size)
    (hs : Q.Pairwise fun x y => leF x.2 y.2) (hlen : Q.length + L.length ≤ 100000) (hS : ∀ k, S k → k < w.heap.size ∧ ownR v ≠ some k)
    (hseq : ∀ n, 1 ≤ n → SeqStopsK Fence.wide n Tryd.prog gf lb encH (KSet S) (fun xs => xs = L) (fun _ => True) L.length w) :
    Calls Tryd.prog 67 #[v, .func (.func gf) #[] lb] w fun e w' => ∃ v', e = .returned v' ∧ QAt 107 w' base v' (inss Q L) ∧ w.grownBy w' (ownR v) ∧ OwnTo w.heap.size v v' := by
  obtain ⟨va, vc, rfl⟩ := hq.form
  have Hq := Lib.hid hq
  have Hs := Lib.hid hs
  have HS := Lib.hid hS
  refine (callsIn_wide (n := 8)).1 ?_
  refine callsIn_of_wp_marks Tryd.func67 rfl trivial ?_ rfl
  simp only [Tryd.ntmps67, List.size_toArray, List.length_cons, List.length_nil, Nat.reduceAdd, Nat.reduceSub, Array.replicate_succ, Array.replicate_zero, List.push_toArray, List.append_toArray, List.nil_append, List.cons_append]
  gi_wp2
  have hb0 : Below w.heap.size w (w.alloc (.cells #[.slice va Q.length vc] 133)) := kAlloc (Below.refl _ _) _
  have hsz : (w.alloc (.cells #[.slice va Q.length vc] 133)).heap.size = w.heap.size + 1 := by simp
  have hI0 : QuI 107 133 base (.slice va Q.length vc) Q w [] (w.alloc (.cells #[.slice va Q.length vc] 133)) :=
    ⟨_, heap_alloc_new _ _, Hq.out.below hb0, World.grownBy_alloc _ _ _, .inl rfl⟩
  obtain ⟨W0, hW0⟩ : ∃ W0, w.alloc (.cells #[.slice va Q.length vc] 133) = W0 := ⟨_, rfl⟩
  rw [hW0] at hb0 hsz hI0 ⊢
  clear hW0
  refine wpIn_rangeFunc_ownH rfl (by omega) (gf := gf) (lb := lb) rfl trivial eg (hseq 7 (by omega)) KSet.trans
    (fun W l o o' hl ho hc _ => ⟨(grownBy_putObj' W l o').size, fun k hk => (grownBy_putObj' W l o').block k (Nat.lt_of_lt_of_le (HS.out k hk).1 (by have := blk_lt ho; omega)) (fun e => by have h1 := (HS.out k hk).1; cases e; omega),
      fun k cs t fr hk _ _ => ((grownBy_putObj' W l o').block k (blk_lt hk) (fun e => by cases e; rw [ho] at hk; cases hk; cases hc)).trans hk⟩)
    hb0 (fun _ => rfl) (QuI 107 133 base (.slice va Q.length vc) Q w) (fun _ _ _ => False) (quI_own (by omega)) (fun _ _ _ _ _ hs _ _ => hs) hI0
    (fun x a' W => ∃ Bx, w.heap.size < Bx ∧ W.heap[Bx]? = some (.cells #[.int .i64 x.1, .int .i64 x.2.tick, .int .i8 x.2.frm, .int .i64 x.2.who] 107 (0, 0)) ∧ a' = { tmps := #[.slice va Q.length vc, .func (.func gf) #[] lb, .pointer (some ⟨w.heap.size, 0, none⟩), undef, .slice none 0 0, .pointer (some ⟨Bx, 0, none⟩), undef, undef, .func (.func gf) #[] lb, .agg #[.int .i64 x.1, .int .i64 x.2.tick, .int .i8 x.2.frm, .int .i64 x.2.who], undef, undef, undef, undef, undef, undef, undef, undef, undef, undef, undef, undef], defers := [] })
    (fun x a' _ X Y row hs hg hr => by
      obtain ⟨Bx, h1, h2, h3⟩ := hs
      refine ⟨Bx, h1, (hg.block _ (blk_lt h2) (fun e => ?_)).trans h2, h3⟩
      obtain ⟨ob, h4, h5⟩ := (hr _ e.symm).2
      rw [h2] at h4
      cases h4
      cases h5)
    ?assign ?body ?done ?stop
  case assign =>
    rintro l pre x W K hi hK
    have hwz : w.heap.size + 1 ≤ W.heap.size := by obtain ⟨_, h1, _⟩ := hi; have := blk_lt h1; omega
    have hBA : Below W.heap.size W (W.alloc (.cells #[.int .i64 x.1, .int .i64 x.2.tick, .int .i8 x.2.frm, .int .i64 x.2.who] 107)) := kAlloc (Below.refl _ _) _
    have hi2 := quI_own (T := 107) (U := 133) (base := base) (v := .slice va Q.length vc) (Q := Q) (w := w) (B := w.heap.size + 1) (Nat.le_refl _) pre W _ none hi (World.grownBy_alloc W (.cells #[.int .i64 x.1, .int .i64 x.2.tick, .int .i8 x.2.frm, .int .i64 x.2.who] 107) none) (fun r e => by cases e)
    have HI2 := Lib.hid hi2
    have HK := Lib.hid hK
    unfold encH
    clear hi hi2 hK
    gi_wp2
    exact HK.out _ _ ((KeepsOthers.alloc _ _).from _) (KSet.of_below (fun k hk => Nat.lt_of_lt_of_le (HS.out k hk).1 (by omega)) hBA) HI2.out ⟨W.heap.size, by omega, heap_alloc_new _ _, rfl⟩
  case body =>
    rintro l pre x a' W hl _ ⟨v', h1, h2, h3, h4⟩ ⟨Bx, hBx, h5, rfl⟩ hlt
    obtain ⟨ua, uc, rfl⟩ := h2.form
    have lw := blk_lt h1
    have lx := blk_lt h5
    have cv : W.cell? ⟨w.heap.size, 0, none⟩ = some (.slice ua (inss Q pre).length uc) := cell_of_row _ _ 0 _ _ _ h1
    have cx0 : W.cell? ⟨Bx, 0, none⟩ = some (.int .i64 x.1) := cell_of_row _ _ 0 _ _ _ h5
    have cx1 : W.cell? ⟨Bx, 1, none⟩ = some (.int .i64 x.2.tick) := cell_of_row _ _ 1 _ _ _ h5
    have cx2 : W.cell? ⟨Bx, 2, none⟩ = some (.int .i8 x.2.frm) := cell_of_row _ _ 2 _ _ _ h5
    have cx3 : W.cell? ⟨Bx, 3, none⟩ = some (.int .i64 x.2.who) := cell_of_row _ _ 3 _ _ _ h5
    have hpre : (inss Q pre).length ≤ 100000 := by rw [inss_length]; omega
    have H1 := Lib.hid h1
    have H2 := Lib.hid h2
    have H3 := Lib.hid h3
    have H4 := Lib.hid h4
    have H5 := Lib.hid h5
    clear h1 h2 h3 h4 h5
    gi_wp2_with fail
    refine ⟨trivial, (CallsIn.inRound l (callsIn_wide.2 (bsearch_any base _ (inss Q pre) x.1 x.2 W H2.out (inss_sorted Hs.out) (by omega)))).mono ?_⟩
    rintro e W2 ⟨bb, rfl, hB2⟩
    have T2 : Below W.heap.size W (W2.alloc (.cells #[.int .i64 x.1, .int .i64 x.2.tick, .int .i8 x.2.frm, .int .i64 x.2.who] 107)) := kAlloc hB2 _
    have hp1 : ((inss Q pre).take (posOf (inss Q pre) x.2)).length = posOf (inss Q pre) x.2 := by rw [List.length_take]; exact Nat.min_eq_left (posOf_le _ _)
    have hqi : QAt 107 (W2.alloc (.cells #[.int .i64 x.1, .int .i64 x.2.tick, .int .i8 x.2.frm, .int .i64 x.2.who] 107)) base (.slice ua (inss Q pre).length uc) ((inss Q pre).take (posOf (inss Q pre) x.2) ++ (inss Q pre).drop (posOf (inss Q pre) x.2)) := by rw [List.take_append_drop]; exact H2.out.below T2
    have hvi : (W2.alloc (.cells #[.int .i64 x.1, .int .i64 x.2.tick, .int .i8 x.2.frm, .int .i64 x.2.who] 107)).heap[W2.heap.size]? = some (.cells (htCells x).toArray 107 (0, 0)) := heap_alloc_new _ _
    have hown : ownR (.slice ua (inss Q pre).length uc) ≠ some W2.heap.size := fun e => by
      rcases H2.out.own with h | ⟨g, cs, h, _, hg⟩
      · rw [h] at e; cases e
      · rw [h] at e; cases e; have := blk_lt hg; have := hB2.size; omega
    have HIN := Lib.hid (insert_any base W2.heap.size 1 _ _ _ x _ 107 _ hp1 (by have h1 := H3.out.size; have h2 := hB2.size; simp only [World.size_alloc]; omega) hqi hvi hown (by rw [List.take_append_drop]; omega))
    have cv2 : W2.cell? ⟨w.heap.size, 0, none⟩ = some (.slice ua (inss Q pre).length uc) := cell_of_row _ _ 0 _ _ _ (blk_below H1.out hB2)
    have cy0 : W2.cell? ⟨Bx, 0, none⟩ = some (.int .i64 x.1) := cell_of_row _ _ 0 _ _ _ (blk_below H5.out hB2)
    have cy1 : W2.cell? ⟨Bx, 1, none⟩ = some (.int .i64 x.2.tick) := cell_of_row _ _ 1 _ _ _ (blk_below H5.out hB2)
    have cy2 : W2.cell? ⟨Bx, 2, none⟩ = some (.int .i8 x.2.frm) := cell_of_row _ _ 2 _ _ _ (blk_below H5.out hB2)
    have cy3 : W2.cell? ⟨Bx, 3, none⟩ = some (.int .i64 x.2.who) := cell_of_row _ _ 3 _ _ _ (blk_below H5.out hB2)
    have HT2 := Lib.hid T2
    clear hp1 hqi hvi hown hB2 T2 cv cx0 cx1 cx2 cx3
    gi_wp2_with fail
    refine ⟨trivial, (CallsIn.inRound l (callsIn_wide.2 HIN.out)).mono ?_⟩
    rintro e W3 ⟨v3, rfl, hq3, hg3, ho3⟩
    rw [← posOf_split, ← inss_snoc] at hq3
    obtain ⟨ta, tc, rfl⟩ := hq3.form
    have hA : ∀ k, k < W.heap.size → ownR (.slice ua (inss Q pre).length uc) ≠ some k → W3.heap[k]? = W.heap[k]? := fun k hk hne => (hg3.block k (Nat.lt_of_lt_of_le hk HT2.out.size) (fun e => hne e.symm)).trans (HT2.out.block k hk)
    have hown1 : ∀ k cs t fr, W.heap[k]? = some (.cells cs t fr) → t ≠ 107 → ownR (.slice ua (inss Q pre).length uc) ≠ some k := fun k cs t fr hk ht e => by
      rcases H2.out.own with h | ⟨g, cs2, h, _, hg⟩
      · rw [h] at e; cases e
      · rw [h] at e; cases e; rw [hg] at hk; cases hk; exact ht rfl
    have hbx3 : W3.heap[w.heap.size]? = some (.cells #[.slice ua (inss Q pre).length uc] 133 (0, 0)) := (hA _ lw (hown1 _ _ _ _ H1.out (by decide))).trans H1.out
    have cv3 : W3.cell? ⟨w.heap.size, 0, none⟩ = some (.slice ua (inss Q pre).length uc) := cell_of_row _ _ 0 _ _ _ hbx3
    have cf3 : W3.frozen? ⟨w.heap.size, 0, none⟩ = false := frozen_of_row _ _ 0 _ _ hbx3
    have HA := Lib.hid hA
    have HO1 := Lib.hid hown1
    have HQ3 := Lib.hid hq3
    have HG3 := Lib.hid hg3
    have HO3 := Lib.hid ho3
    have HBX := Lib.hid hbx3
    clear hA hown1 hq3 hg3 ho3 hbx3 cv2 cy0 cy1 cy2 cy3 HIN
    gi_wp2
    have hsz3 : W.heap.size ≤ W3.heap.size := Nat.le_trans HT2.out.size HG3.out.size
    have hA2 : ∀ k, k < W.heap.size → ownR (.slice ua (inss Q pre).length uc) ≠ some k → k ≠ w.heap.size → (W3.setCell ⟨w.heap.size, 0, none⟩ (.slice ta (inss Q (pre ++ [x])).length tc)).heap[k]? = W.heap[k]? := fun k hk hne hb => (Below.heap_setCell _ _ _ _ hb).trans (HA.out k hk hne)
    have hwl : w.heap.size ≤ W.heap.size := H3.out.size
    refine ⟨⟨by simpa [World.setCell] using hsz3, fun k o hkB hk ho => ?_⟩, ⟨by simpa [World.setCell] using hsz3, fun k hk => ?_, fun k cs t fr hk ht1 ht2 => ?_⟩, _, blk_set_same' HBX.out, ?_, ?_, ?_⟩
    · refine (hA2 k (blk_lt hk) (fun e => ?_) (fun e => ?_)).trans hk
      · rcases H2.out.own with h | ⟨g, cs2, h, _, hg⟩
        · rw [h] at e; cases e
        · rw [h] at e; cases e; rw [hg] at hk; cases hk; cases ho
      · rw [e, H1.out] at hk; cases hk; cases ho
    · have h1 := HS.out k hk
      refine hA2 k (Nat.lt_of_lt_of_le h1.1 hwl) (fun e => ?_) (by omega)
      rcases H4.out with h | ⟨g, h, hg⟩
      · rw [h] at e; exact h1.2 e
      · rw [h] at e; cases e; omega
    · exact (hA2 k (blk_lt hk) (HO1.out k cs t fr hk ht1) (fun e => by rw [e, H1.out] at hk; cases hk; exact ht2 rfl)).trans hk
    · refine HQ3.out.kept (grownBy_setCell' W3 w.heap.size _) (.inr (fun e => ?_))
      rcases HQ3.out.own with h | ⟨g, cs2, h, _, hg⟩
      · rw [h] at e; cases e
      · rw [h] at e; cases e; rw [HBX.out] at hg; cases hg
    · refine ⟨HG3.out.os.trans (HT2.out.os.trans H3.out.os), HG3.out.tape.trans (HT2.out.tape.trans H3.out.tape), HG3.out.output.trans (HT2.out.output.trans H3.out.output), by simpa [World.setCell] using Nat.le_trans hwl hsz3, fun k hk hne => ?_⟩
      refine (hA2 k (Nat.lt_of_lt_of_le hk hwl) (fun e => ?_) (by omega)).trans (H3.out.block k hk hne)
      rcases H4.out with h | ⟨g, h, hg⟩
      · rw [h] at e; exact hne e.symm
      · rw [h] at e; cases e; omega
    · rcases HO3.out with h | ⟨g, h, hg⟩
      · rcases H4.out with h2 | ⟨g, h2, hg⟩
        · exact .inl (h.trans h2)
        · exact .inr ⟨g, h.trans h2, hg⟩
      · refine .inr ⟨g, h, ?_⟩
        have := HT2.out.size
        omega
  case done =>
    rintro D zs W hD rfl ⟨v', h1, h2, h3, h4⟩ hK
    obtain ⟨ua, uc, rfl⟩ := h2.form
    have cv : W.cell? ⟨w.heap.size, 0, none⟩ = some (.slice ua (inss Q zs).length uc) := cell_of_row _ _ 0 _ _ _ h1
    have H2 := Lib.hid h2
    have H3 := Lib.hid h3
    have H4 := Lib.hid h4
    clear h1 h2 h3 h4
    gi_wp2
    refine ⟨by simp, .inl ⟨_, _, rfl, run_takeDeferred hK, ?_⟩⟩
    refine ⟨_, results_tmp rfl _ _ _, _, rfl, H2.out.kept2 (grownBy_putObj' W D _) (fun r e => by cases e; exact ⟨_, hK, rfl⟩), ?_, ?_⟩
    · have hg := grownBy_putObj' W D (.deferred none)
      refine ⟨hg.os.trans H3.out.os, hg.tape.trans H3.out.tape, hg.output.trans H3.out.output, Nat.le_trans H3.out.size hg.size, fun k hk hne => ?_⟩
      exact (hg.block k (Nat.lt_of_lt_of_le hk H3.out.size) (fun e => by cases e; omega)).trans (H3.out.block k hk hne)
    · rcases H4.out with h | ⟨g, hg, hb⟩
      · exact .inl h
      · exact .inr ⟨g, hg, by omega⟩
  case stop =>
    rintro D c pre W _ _ h _
    exact h.elim
end Go.Proofs.YtflkfkbdgekpkaaDoor

/- The iterators as values, and what they yield. -/
namespace Go.Proofs.YtflkfkbdgekpkaaDoor
open Go.ChangeShapes Go.WideShapes Go.ChangeAt Go.RowKit Go.Shelf
set_option linter.unusedVariables false
set_option linter.unusedSimpArgs false

theorem hitsByPushes_any (wd hi : Int) (B : Nat) (v1 v2 : Value) (w : World) (h1 : ∃ a n c, v1 = .slice a n c) (h2 : ∃ a n c, v2 = .slice a n c) :
    Calls Tryd.prog 68 #[.agg #[.int .i8 wd, .int .i8 hi, .map (some B), v1, v2]] w fun e w' => e = .returned (.func (.func 91) #[] #[.pointer (some ⟨w.heap.size, 0, none⟩)]) ∧ w' = w.alloc (.cells #[.int .i8 wd, .int .i8 hi, .map (some B), v1, v2] 90) := by
  obtain ⟨a1, n1, c1, rfl⟩ := h1
  obtain ⟨a2, n2, c2, rfl⟩ := h2
  go_enter Tryd.func68, Tryd.ntmps68
  go_wp2
  go_ret
  exact ⟨rfl, rfl⟩
theorem byPushes_stops (S : Nat → Prop) (n : Nat) (hn : 1 ≤ n) (Bg B b o m cap pb np pc : Nat) (pa : Option Addr) (hpa : np = 0 ∨ pa = some ⟨pb, 0, none⟩) (wd hi : Int) (lb : List Pc) (l : List Pu) (w : World)
    (hm : lb.length = m) (hp : PcsAt w b o lb) (hb : b < w.heap.size) (hcap : m ≤ cap) (hmp : MapAt w B lb) (hok : ∀ q ∈ lb, q.ok = true) (hmm : m ≤ 1048576)
    (hnp : l.length = np) (hpu : PusAt w pb 0 l) (hpb : pb < w.heap.size) (hpl : ∀ q ∈ l, q.plain = true) (hnm : np ≤ 1048576)
    (hBg : w.heap[Bg]? = some (.cells #[.int .i8 wd, .int .i8 hi, .map (some B), .slice (some ⟨b, o, none⟩) m cap, .slice pa np pc] 90 (0, 0)))
    (s1 : S b) (s2 : S B) (s3 : S pb) (s4 : S Bg) (hS : ∀ k, S k → k < w.heap.size) :
    SeqStopsK Fence.wide n Tryd.prog 91 #[.pointer (some ⟨Bg, 0, none⟩)] encH (KSet S) (fun xs => xs = insL lb l) (fun _ => True) (insL lb l).length w := fun lk J Jx W hW hJ _ hY h0 =>
  byPushes1_in S n hn lk Bg B b o m cap pb np pc pa hpa wd hi lb l J Jx W hJ hm (hp.below hW hb) (Nat.lt_of_lt_of_le hb hW.size) hcap (hmp.below hW) hok hmm hnp (hpu.below hW hpb) (Nat.lt_of_lt_of_le hpb hW.size) hpl hnm (blk_below hBg hW) s1 s2 s3 s4 (fun k hk => Nat.lt_of_lt_of_le (hS k hk) hW.size) hY h0
theorem hitsBy_any (wd hi i : Int) (B : Nat) (v1 v2 : Value) (f : Fl) (w : World) (h1 : ∃ a n c, v1 = .slice a n c) (h2 : ∃ a n c, v2 = .slice a n c) :
    Calls Tryd.prog 47 #[.agg #[.int .i8 wd, .int .i8 hi, .map (some B), v1, v2], .int .i64 i, .agg #[.int .i64 f.tick, .int .i8 f.frm, .int .i64 f.who]] w fun e w' =>
      e = .returned (.func (.func 77) #[] #[.pointer (some ⟨w.heap.size + 1 + 1, 0, none⟩), .pointer (some ⟨w.heap.size, 0, none⟩), .pointer (some ⟨w.heap.size + 1, 0, none⟩)]) ∧
      w' = ((w.alloc (.cells #[.int .i8 wd, .int .i8 hi, .map (some B), v1, v2] 90)).alloc (.cells #[.int .i64 i] 2)).alloc (.cells #[.int .i64 f.tick, .int .i8 f.frm, .int .i64 f.who] 73) := by
  obtain ⟨a1, n1, c1, rfl⟩ := h1
  obtain ⟨a2, n2, c2, rfl⟩ := h2
  go_enter Tryd.func47, Tryd.ntmps47
  go_wp2
  go_ret
  exact ⟨rfl, rfl⟩
theorem byFall_stops (S : Nat → Prop) (n : Nat) (hn : 1 ≤ n) (Bg Bi Bf B b o m cap : Nat) (pa : Option Addr) (pn pc : Nat) (wd hi : Int) (lb : List Pc) (j : Nat) (f : Fl) (w : World)
    (hm : lb.length = m) (hp : PcsAt w b o lb) (hb : b < w.heap.size) (hcap : m ≤ cap) (hmp : MapAt w B lb) (hok : ∀ q ∈ lb, q.ok = true) (hmm : m ≤ 1048576) (hj : j < m)
    (hf0 : 0 ≤ f.tick) (hf1 : f.tick ≤ 1048576) (hs : 0 ≤ f.frm ∧ f.frm ≤ 3)
    (hBg : w.heap[Bg]? = some (.cells #[.int .i8 wd, .int .i8 hi, .map (some B), .slice (some ⟨b, o, none⟩) m cap, .slice pa pn pc] 90 (0, 0)))
    (hBf : w.heap[Bf]? = some (.cells #[.int .i64 f.tick, .int .i8 f.frm, .int .i64 f.who] 73 (0, 0))) (hBi : w.heap[Bi]? = some (.cells #[.int .i64 j] 2 (0, 0)))
    (s1 : S b) (s2 : S B) (s3 : S Bf) (s4 : S Bg) (s5 : S Bi) (hS : ∀ k, S k → k < w.heap.size) :
    SeqStopsK Fence.wide n Tryd.prog 77 #[.pointer (some ⟨Bf, 0, none⟩), .pointer (some ⟨Bg, 0, none⟩), .pointer (some ⟨Bi, 0, none⟩)] encH (KSet S) (fun xs => xs = outsL lb j f) (fun _ => True) (outsL lb j f).length w := fun lk J Jx W hW hJ _ hY h0 => by
  have hjl : j < lb.length := by omega
  have e : outsL lb j f = outU lb lb[j] j f 4 := by unfold outsL; rw [List.getD_eq_getElem?_getD, List.getElem?_eq_getElem hjl]; rfl
  rw [e] at hY ⊢
  exact byFall1_in S n hn lk Bg Bi Bf B b o m cap pa pn pc wd hi lb j lb[j] f J Jx W hJ hm (hp.below hW hb) (Nat.lt_of_lt_of_le hb hW.size) hcap (hmp.below hW) hok hmm hj (fun _ => rfl) hf0 hf1 hs (blk_below hBg hW) (blk_below hBf hW) (blk_below hBi hW) s1 s2 s3 s4 s5 (fun k hk => Nat.lt_of_lt_of_le (hS k hk) hW.size) hY h0
theorem enters_pushes : ∀ args w, (callFunc 91 args).run Tryd.prog w = .ok (.enter 91 args) w := enters_of Tryd.func91 (by kernel_rfl) rfl
theorem enters_fall : ∀ args w, (callFunc 77 args).run Tryd.prog w = .ok (.enter 77 args) w := enters_of Tryd.func77 (by kernel_rfl) rfl
end Go.Proofs.YtflkfkbdgekpkaaDoor
