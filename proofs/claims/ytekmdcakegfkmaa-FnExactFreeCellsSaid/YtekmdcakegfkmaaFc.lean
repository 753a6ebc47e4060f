/- Cells of a board in rows: which ones are free; the iterator cells. -/
import Derived.Test.YtekmdcakegfkmaaGr
import Derived.Test.YtekmdcakegfkmaaClk
import Derived.RangeFuncBox
import Derived.RangeFuncNested
import Derived.RangeFuncBound
import Derived.RangeFuncCalls
import Derived.RangeFuncLeaves
import Derived.Shelf.Abstract
import Derived.Shelf.RegionOpen
import Derived.OwnWalkIn
import Derived.TacticsInMore
import Derived.LoopNIn
import Derived.LoopIn
import Derived.Outline
namespace Go.Proofs.Ytekmdcakegfkmaa
open Go.ChangeShapes Go.WideShapes Go.ChangeAt Go.RowKit Go.Shelf Go.Joins Go.Deep
set_option linter.unusedVariables false
set_option linter.unusedSimpArgs false
attribute [local go_sem] Oper.semAt_some

structure C24 where
  x : Nat
  y : Nat
  hx : x < 24
  hy : y < 24
def mkC (W i : Nat) : C24 := if h : i % W < 24 ∧ i / W < 24 then ⟨i % W, i / W, h.1, h.2⟩ else ⟨0, 0, by decide, by decide⟩
theorem mkC_at {W x y : Nat} (hx : x < W) (hW : W ≤ 24) (hy : y < 24) : mkC W (y * W + x) = ⟨x, y, Nat.lt_of_lt_of_le hx hW, hy⟩ := by
  have e1 : (y * W + x) % W = x := by rw [Nat.mul_comm, Nat.mul_add_mod]; exact Nat.mod_eq_of_lt hx
  have e2 : (y * W + x) / W = y := by rw [Nat.mul_comm, Nat.mul_add_div (by omega), Nat.div_eq_of_lt hx, Nat.add_zero]
  unfold mkC
  rw [dif_pos (by rw [e1, e2]; exact ⟨Nat.lt_of_lt_of_le hx hW, hy⟩)]
  simp only [C24.mk.injEq]
  exact ⟨e1, e2⟩
def cellsC (W N : Nat) : List C24 := (List.range N).map (mkC W)
theorem cellsC_length (W N : Nat) : (cellsC W N).length = N := by simp [cellsC]
theorem cellsC_succ (W N : Nat) : cellsC W (N + 1) = cellsC W N ++ [mkC W N] := by simp [cellsC, List.range_succ]
def C24.cl (c : C24) : Cl := ⟨c.x, c.y⟩
def frC (wd hi : Int) (l : List Pc) (pre : List C24) : List Cl := (pre.filter fun c => freeB wd hi l c.x c.y).map C24.cl
theorem frC_snoc (wd hi : Int) (l : List Pc) (pre : List C24) (c : C24) : frC wd hi l (pre ++ [c]) = if freeB wd hi l c.x c.y = true then frC wd hi l pre ++ [c.cl] else frC wd hi l pre := by
  unfold frC
  rw [List.filter_append, List.map_append]
  by_cases h : freeB wd hi l c.x c.y = true
  · rw [if_pos h]; simp [h]
  · rw [if_neg h]; simp [h]
theorem frC_len (wd hi : Int) (l : List Pc) (pre : List C24) : (frC wd hi l pre).length ≤ pre.length := by
  unfold frC
  rw [List.length_map]
  exact List.length_filter_le _ _
theorem frC_wf (wd hi : Int) (l : List Pc) (pre : List C24) : ClsWf (frC wd hi l pre) := by
  intro p hp
  obtain ⟨c, _, rfl⟩ := List.mem_map.1 hp
  have h1 := c.hx
  have h2 := c.hy
  unfold C24.cl Cl.wf
  simp only
  exact ⟨by have h : ∀ n : Nat, n < 24 → (Lit.int .i8 (n : Int)).wf = true := by decide
            exact h _ h1, by have h : ∀ n : Nat, n < 24 → (Lit.int .i8 (n : Int)).wf = true := by decide
                             exact h _ h2⟩
def encC (c : C24) : Array Value := #[.agg #[.int .i8 (c.x : Int), .int .i8 (c.y : Int)]]
/-- what lies in the blocks of S is as it was -/
structure KC (S : Nat → Prop) (W W' : World) : Prop where
  size : W.heap.size ≤ W'.heap.size
  same : ∀ k, S k → W'.heap[k]? = W.heap[k]?
theorem KC.refl (S : Nat → Prop) (W : World) : KC S W W := ⟨Nat.le_refl _, fun _ _ => rfl⟩
theorem KC.trans {S : Nat → Prop} {A B C : World} (h : KC S A B) (k : KC S B C) : KC S A C := ⟨Nat.le_trans h.size k.size, fun i hi => (k.same i hi).trans (h.same i hi)⟩
theorem KC.of_below {S : Nat → Prop} {W W' : World} (hS : ∀ k, S k → k < W.heap.size) (h : Below W.heap.size W W') : KC S W W' := ⟨h.size, fun k hk => h.block k (hS k hk)⟩
theorem grown_ownC {α : Type} {w : World} {f B : Nat} (hB : w.heap.size ≤ B) : OwnFrom B (fun (_ : List α) W => w.grownBy W (some f)) := by
  intro s X Y row hs hg hr
  refine ⟨hg.os.trans hs.os, hg.tape.trans hs.tape, hg.output.trans hs.output, Nat.le_trans hs.size hg.size, fun k hk hne => ?_⟩
  refine (hg.block k (Nat.lt_of_lt_of_le hk hs.size) (fun e => ?_)).trans (hs.block k hk hne)
  have := (hr _ e.symm).1
  omega
theorem enters_cells : ∀ args w, (callFunc 121 args).run Try.prog w = .ok (.enter 121 args) w := enters_of Try.func121 (by kernel_rfl) rfl
theorem cells_any (wd hi : Int) (B : Nat) (vs : Value) (w : World) :
    Calls Try.prog 104 #[.agg #[.int .i8 wd, .int .i8 hi, .map (some B), .int .i8 wd, .int .i8 hi, vs]] w fun e w' => e = .returned (.func (.func 121) #[] #[.pointer (some ⟨w.heap.size, 0, none⟩)]) ∧ w' = w.alloc (.cells #[.int .i8 wd, .int .i8 hi, .map (some B), .int .i8 wd, .int .i8 hi, vs] 152) := by
  go_enter Try.func104, Try.ntmps104
  go_wp2
  go_ret
  exact ⟨rfl, rfl⟩
set_option maxRecDepth 100000 in
set_option maxHeartbeats 8000000 in
theorem cells1_in (S : Nat → Prop) (n' : Nat) (hn' : 1 ≤ n') (lk Bg B : Nat) (vs : Value) (W H : Nat) (hW : 1 ≤ W ∧ W ≤ 24) (hH : 1 ≤ H ∧ H ≤ 24) (J Jx : List C24 → World → Prop) (Wd : World) (hJ : AbidesFrom Wd.heap.size J)
    (hBd : Wd.heap[Bg]? = some (.cells #[.int .i8 (W : Int), .int .i8 (H : Int), .map (some B), .int .i8 (W : Int), .int .i8 (H : Int), vs] 152 (0, 0))) (s1 : S Bg) (hS : ∀ k, S k → k < Wd.heap.size)
    (hY : ∀ pre x W1, J pre W1 → pre.length < W * H → YieldAt Fence.wide (n' - 1) Try.prog lk (encC x) W1 fun e W' =>
      (e = .returned (.bool true) ∧ J (pre ++ [x]) W' ∧ KC S W1 W') ∨ (e = .returned (.bool false) ∧ Jx (pre ++ [x]) W'))
    (h0 : J [] Wd) :
    CallsIn Fence.wide n' Try.prog 121 #[.func (.yield lk) #[] #[], .pointer (some ⟨Bg, 0, none⟩)] Wd fun e W' => (∃ v, e = .returned v) ∧
      ((∃ ys, ys = cellsC W (W * H) ∧ J ys W') ∨ (∃ pre, True ∧ Jx pre W')) := by
  have HJ := Lib.hid hJ
  have HS := Lib.hid hS
  have HD := Lib.hid hBd
  have c0 : Wd.cell? ⟨Bg, 0, none⟩ = some (.int .i8 (W : Int)) := cell_of_row _ _ 0 _ _ _ hBd
  have c1 : Wd.cell? ⟨Bg, 1, none⟩ = some (.int .i8 (H : Int)) := cell_of_row _ _ 1 _ _ _ hBd
  clear hJ hS hBd
  refine callsIn_of_wp Try.func121 rfl trivial ?_ rfl
  simp only [Try.ntmps121, List.size_toArray, List.length_cons, List.length_nil, Nat.reduceAdd, Nat.reduceSub, Array.replicate_succ, Array.replicate_zero, List.push_toArray, List.append_toArray, List.nil_append, List.cons_append]
  gi_wp2
  gi_loopw [9] (fun i wr => ∃ j : Nat, j ≤ H ∧ i = .int .i8 j ∧ Hid (J (cellsC W (j * W)) wr) ∧ KC S Wd wr) (fun i _ => H - (intOf i).toNat)
  case atStart => exact ⟨0, Nat.zero_le _, rfl, Lib.hid (by simpa [cellsC] using h0), KC.refl _ _⟩
  case round =>
    clear c0 c1
    obtain ⟨wo, rfl⟩ : ∃ wo : World, wo = wr := ⟨_, rfl⟩
    obtain ⟨j, hj, rfl, hJs, hks⟩ := hrel
    have hGr := (hks.same Bg s1).trans HD.out
    have c0 : wo.cell? ⟨Bg, 0, none⟩ = some (.int .i8 (W : Int)) := cell_of_row _ _ 0 _ _ _ hGr
    have c1 : wo.cell? ⟨Bg, 1, none⟩ = some (.int .i8 (H : Int)) := cell_of_row _ _ 1 _ _ _ hGr
    have lg2 := blk_lt hGr
    clear hGr
    by_cases hlt : j < H
    · gi_wp2
      gi_loopw [16] (fun i wr => ∃ k : Nat, k ≤ W ∧ i = .int .i8 k ∧ Hid (J (cellsC W (j * W + k)) wr) ∧ KC S Wd wr) (fun i _ => W - (intOf i).toNat)
      case atStart => exact ⟨0, Nat.zero_le _, rfl, hJs, hks⟩
      case round =>
        clear c0 c1 hJs hks
        obtain ⟨k, hk, rfl, hJs, hks⟩ := hrel
        by_cases hlk : k < W
        · have hmk := mkC_at hlk hW.2 (Nat.lt_of_lt_of_le hlt hH.2)
          have hNN : j * W + k < W * H := by
            have h1 : (j + 1) * W ≤ H * W := Nat.mul_le_mul_right W hlt
            rw [Nat.succ_mul] at h1
            rw [Nat.mul_comm W H]
            omega
          obtain ⟨fn, tmps, assign, body, hy, hR⟩ := hY _ (mkC W (j * W + k)) _ hJs.out (by rw [cellsC_length]; exact hNN)
          rw [hmk] at hy
          unfold encC at hy
          simp only at hy
          have HK := Lib.hid hks
          clear hNN hmk hks
          gi_wp2
          refine hR.mono ?_
          rintro e W3 (⟨rfl, hJ3, hk3⟩ | ⟨rfl, hJx3⟩)
          · have J3 := Lib.hid (show J (cellsC W (j * W + (k + 1))) W3 by rw [← Nat.add_assoc, cellsC_succ]; exact hJ3)
            have K3 := Lib.hid (HK.out.trans hk3)
            clear hJ3 HK hk3
            gi_wp2
            go_roundw
            case rel => exact ⟨k + 1, by omega, by go_num, J3, K3.out⟩
            case measure => simp [intOf]; omega
          · gi_wp2
            refine bodyPost_ret (results_none rfl _ _ _) rfl ?_
            exact ⟨⟨_, rfl⟩, .inr ⟨_, trivial, hJx3⟩⟩
        · obtain rfl : k = W := by omega
          have J3 := Lib.hid (show J (cellsC k ((j + 1) * k)) wr by rw [Nat.succ_mul]; exact hJs.out)
          have K3 := Lib.hid hks
          clear hJs hks
          gi_wp2
          go_roundw
          case rel => exact ⟨j + 1, by omega, by go_num, J3, K3.out⟩
          case measure => simp [intOf]; omega
    · obtain rfl : j = H := by omega
      have J2 := Lib.hid (show J (cellsC W (W * j)) wo by rw [Nat.mul_comm]; exact hJs.out)
      clear hJs hks c0 c1
      gi_wp2
      go_end0
      exact ⟨⟨_, rfl⟩, .inl ⟨_, rfl, J2.out⟩⟩
theorem cells_stops (S : Nat → Prop) (n' : Nat) (hn' : 1 ≤ n') (Bg B : Nat) (vs : Value) (W H : Nat) (hW : 1 ≤ W ∧ W ≤ 24) (hH : 1 ≤ H ∧ H ≤ 24) (w : World)
    (hBd : w.heap[Bg]? = some (.cells #[.int .i8 (W : Int), .int .i8 (H : Int), .map (some B), .int .i8 (W : Int), .int .i8 (H : Int), vs] 152 (0, 0))) (s1 : S Bg) (hS : ∀ k, S k → k < w.heap.size) :
    SeqStopsK Fence.wide n' Try.prog 121 #[.pointer (some ⟨Bg, 0, none⟩)] encC (KC S) (fun xs => xs = cellsC W (W * H)) (fun _ => True) (W * H) w := fun lk J Jx Wd hWd hJ _ hY h0 =>
  cells1_in S n' hn' lk Bg B vs W H hW hH J Jx Wd hJ (blk_below hBd hWd) s1 (fun k hk => Nat.lt_of_lt_of_le (hS k hk) hWd.size) hY h0
end Go.Proofs.Ytekmdcakegfkmaa
