/- The answers of a machine in all rows. -/
import Derived.Test.YthohngkdfhpieaaGreatDoorG18
import Derived.Test.YthohngkdfhpieaaGreatDoorTkN
import Derived.Test.YthohngkdfhpieaaGreatDoorTs
import Derived.RangeFuncBox
namespace Go.Proofs.YthohngkdfhpieaaGreatDoor
open Go.ChangeShapes Go.WideShapes Go.ChangeAt Go.RowKit Go.Shelf Go.Joins Go.Deep
set_option linter.unusedVariables false
set_option linter.unusedSimpArgs false
attribute [local go_sem] Oper.semAt_some

/-! ### the falls of each row, no input being late -/
def AnsAt (wd hi : Int) (l : List Pc) (p : List Po) (c : List Cl) (n : Nat) (F : Nat → List Fl) : Prop := ∀ r : Nat, RowRun wd hi (r : Int) l p c (zeros n) (F r)
theorem ans_exist {wd hi : Int} {l : List Pc} {p : List Po} {c : List Cl} {n : Nat} (hM : machOk wd hi l p c = true) : ∃ F, AnsAt wd hi l p c n F :=
  ⟨fun r => Classical.choose (row_exists (t := zeros n) (r : Int) hM (zeros_late _)), fun r => Classical.choose_spec (row_exists (t := zeros n) (r : Int) hM (zeros_late _))⟩
theorem ans_pick {M : Bool} {wd hi : Int} {l : List Pc} {p : List Po} {c : List Cl} {n : Nat} (hM : M = machOk wd hi l p c) : ∃ F, M = true → AnsAt wd hi l p c n F := by
  cases M with
  | false => exact ⟨fun _ => [], fun h => nomatch h⟩
  | true => obtain ⟨F, hF⟩ := ans_exist (n := n) hM.symm; exact ⟨F, fun _ => hF⟩
def ansO (l : List Pc) (c : List Cl) (F : Nat → List Fl) (r : Nat) : Int := outsB (ticksL l (F r) c) 0 0
def ansL (l : List Pc) (c : List Cl) (F : Nat → List Fl) (k : Nat) : List Int := (List.range k).map (ansO l c F)
theorem ansL_length (l : List Pc) (c : List Cl) (F : Nat → List Fl) (k : Nat) : (ansL l c F k).length = k := by simp [ansL]
theorem ansL_succ (l : List Pc) (c : List Cl) (F : Nat → List Fl) (k : Nat) : ansL l c F (k + 1) = ansL l c F k ++ [ansO l c F k] := by simp [ansL, List.range_succ]
theorem ansL_get (l : List Pc) (c : List Cl) (F : Nat → List Fl) (k i : Nat) (h : i < (ansL l c F k).length) : (ansL l c F k)[i] = ansO l c F i := by simp [ansL]
structure R64 where
  v : Nat
  lt : v < 64
def mk64 (i : Nat) : R64 := if h : i < 64 then ⟨i, h⟩ else ⟨0, by decide⟩
theorem mk64_v {i : Nat} (h : i < 64) : (mk64 i).v = i := by unfold mk64; rw [dif_pos h]
def numsL (k : Nat) : List R64 := (List.range k).map mk64
theorem numsL_length (k : Nat) : (numsL k).length = k := by simp [numsL]
theorem numsL_succ (k : Nat) : numsL (k + 1) = numsL k ++ [mk64 k] := by simp [numsL, List.range_succ]
theorem numsL_ans (l : List Pc) (c : List Cl) (F : Nat → List Fl) {N : Nat} (h : N ≤ 64) : (numsL N).map (fun x => ansO l c F x.v) = ansL l c F N := by
  unfold numsL ansL
  rw [List.map_map]
  apply List.map_congr_left
  intro i hi
  have := List.mem_range.1 hi
  simp only [Function.comp]
  rw [mk64_v (by omega)]
theorem pow_N {n N : Nat} (h6 : n ≤ 6) (h : 2 ^ n = N) : N ≤ 64 ∧ 1 ≤ N ∧ (2 : Int) ^ n = (N : Int) := by
  have hc : n = 0 ∨ n = 1 ∨ n = 2 ∨ n = 3 ∨ n = 4 ∨ n = 5 ∨ n = 6 := by omega
  subst h
  rcases hc with rfl | rfl | rfl | rfl | rfl | rfl | rfl <;> decide

/-! ### the iterator over rows -/
structure KS (S : Nat → Prop) (W W' : World) : Prop where
  size : W.heap.size ≤ W'.heap.size
  same : ∀ k, S k → W'.heap[k]? = W.heap[k]?
theorem KS.refl (S : Nat → Prop) (W : World) : KS S W W := ⟨Nat.le_refl _, fun _ _ => rfl⟩
theorem KS.trans {S : Nat → Prop} {A B C : World} (h : KS S A B) (k : KS S B C) : KS S A C := ⟨Nat.le_trans h.size k.size, fun i hi => (k.same i hi).trans (h.same i hi)⟩
theorem KS.of_below {S : Nat → Prop} {W W' : World} (hS : ∀ k, S k → k < W.heap.size) (h : Below W.heap.size W W') : KS S W W' := ⟨h.size, fun k hk => h.block k (hS k hk)⟩
theorem KS.of_grown {S : Nat → Prop} {W W' : World} {row : Option Nat} (hS : ∀ k, S k → k < W.heap.size ∧ row ≠ some k) (h : W.grownBy W' row) : KS S W W' := ⟨h.size, fun k hk => h.block k (hS k hk).1 (fun e => (hS k hk).2 e.symm)⟩
def encR (x : R64) : Array Value := #[.int .i64 (x.v : Int)]
theorem abides_belowR {B : Nat} {J : List R64 → World → Prop} (h : AbidesFrom B J) {s : List R64} {W W' : World} (hs : J s W) (hb : Below W.heap.size W W') : J s W' :=
  h s W W' none hs ⟨hb.os, hb.tape, hb.output, hb.size, fun k hk _ => hb.block k hk⟩ (fun r e => by cases e)
set_option maxRecDepth 100000 in
set_option maxHeartbeats 4000000 in
theorem rows1_in (S : Nat → Prop) (n' : Nat) (hn' : 1 ≤ n') (lk Bd B m n r : Nat) (a0 a1 a2 : Option Addr) (d0 d1 d2 : Nat) (wd hi : Int) (J Jx : List R64 → World → Prop) (W : World) (hJ : AbidesFrom W.heap.size J) (h6 : n ≤ 6) (N : Nat) (hN : 2 ^ n = N)
    (hBd : W.heap[Bd]? = some (.cells #[.int .i8 wd, .int .i8 hi, .map (some B), .int .i8 wd, .int .i8 hi, .slice a0 m d0, .slice a1 n d1, .slice a2 r d2] 89 (0, 0))) (s1 : S Bd) (hS : ∀ k, S k → k < W.heap.size)
    (hY : ∀ pre x W1, J pre W1 → pre.length < N → YieldAt Fence.wide (n' - 1) Tryz.prog lk (encR x) W1 fun e W' =>
      (e = .returned (.bool true) ∧ J (pre ++ [x]) W' ∧ KS S W1 W') ∨ (e = .returned (.bool false) ∧ Jx (pre ++ [x]) W'))
    (h0 : J [] W) :
    CallsIn Fence.wide n' Tryz.prog 86 #[.func (.yield lk) #[] #[], .pointer (some ⟨Bd, 0, none⟩)] W fun e W' => (∃ v, e = .returned v) ∧
      ((∃ ys, ys = numsL N ∧ J ys W') ∨ (∃ pre, True ∧ Jx pre W')) := by
  obtain ⟨hN64, hN1, hpn⟩ := pow_N h6 hN
  have HJ := Lib.hid hJ
  have HS := Lib.hid hS
  have HD := Lib.hid hBd
  have HP := Lib.hid hpn
  clear hJ hS hBd hpn hN
  refine callsIn_of_wp Tryz.func86 rfl trivial ?_ rfl
  simp only [Tryz.ntmps86, List.size_toArray, List.length_cons, List.length_nil, Nat.reduceAdd, Nat.reduceSub, Array.replicate_succ, Array.replicate_zero, List.push_toArray, List.append_toArray, List.nil_append, List.cons_append]
  gi_wp2
  gi_loopw [3] (fun i wr => ∃ j : Nat, j ≤ N ∧ i = .int .i64 j ∧ Hid (J (numsL j) wr) ∧ KS S W wr) (fun i _ => N - (intOf i).toNat)
  case atStart => exact ⟨0, Nat.zero_le _, rfl, Lib.hid (by simpa [numsL] using h0), KS.refl _ _⟩
  case round =>
    obtain ⟨j, hj, rfl, hJs, hks⟩ := hrel
    have hGr := (hks.same Bd s1).trans HD.out
    have c0 : wr.cell? ⟨Bd, 0, none⟩ = some (.int .i8 wd) := cell_of_row _ _ 0 _ _ _ (hGr)
    have c1 : wr.cell? ⟨Bd, 1, none⟩ = some (.int .i8 hi) := cell_of_row _ _ 1 _ _ _ (hGr)
    have c2 : wr.cell? ⟨Bd, 2, none⟩ = some (.map (some B)) := cell_of_row _ _ 2 _ _ _ (hGr)
    have c3 : wr.cell? ⟨Bd, 3, none⟩ = some (.int .i8 wd) := cell_of_row _ _ 3 _ _ _ (hGr)
    have c4 : wr.cell? ⟨Bd, 4, none⟩ = some (.int .i8 hi) := cell_of_row _ _ 4 _ _ _ (hGr)
    have c5 : wr.cell? ⟨Bd, 5, none⟩ = some (.slice a0 m d0) := cell_of_row _ _ 5 _ _ _ (hGr)
    have c6 : wr.cell? ⟨Bd, 6, none⟩ = some (.slice a1 n d1) := cell_of_row _ _ 6 _ _ _ (hGr)
    have c7 : wr.cell? ⟨Bd, 7, none⟩ = some (.slice a2 r d2) := cell_of_row _ _ 7 _ _ _ (hGr)
    have lg2 := blk_lt hGr
    have HG2 := Lib.hid hGr
    clear hGr
    by_cases hlt : j < N
    · gi_wp2_with fail
      refine ⟨trivial, (callsIn_wide.2 (hasRow_any B wd hi j a0 a1 a2 m n r d0 d1 d2 wr h6 true (by rw [HP.out]; symm; simp; omega))).mono ?_⟩
      rintro e w2 ⟨rfl, hb2⟩
      have J2 := Lib.hid (abides_belowR HJ.out hJs.out hb2)
      have K2 := hks.trans (KS.of_below (fun k hk => Nat.lt_of_lt_of_le (HS.out k hk) hks.size) hb2)
      have hv : (mk64 j).v = j := mk64_v (by omega)
      obtain ⟨fn, tmps, assign, body, hy, hR⟩ := hY _ (mk64 j) _ J2.out (by rw [numsL_length]; exact hlt)
      unfold encR at hy
      rw [hv] at hy
      clear hv c0 c1 c2 c3 c4 c5 c6 c7 hb2
      gi_wp2
      refine hR.mono ?_
      rintro e W3 (⟨rfl, hJ3, hk3⟩ | ⟨rfl, hJx3⟩)
      · have J3 := Lib.hid (show J (numsL (j + 1)) W3 by rw [numsL_succ]; exact hJ3)
        clear hJ3
        gi_wp2
        go_roundw
        case rel => exact ⟨j + 1, by omega, by go_num, J3, K2.trans hk3⟩
        case measure => simp [intOf]; omega
      · gi_wp2
        refine bodyPost_ret (results_none rfl _ _ _) rfl ?_
        exact ⟨⟨_, rfl⟩, .inr ⟨_, trivial, hJx3⟩⟩
    · obtain rfl : j = N := by omega
      gi_wp2_with fail
      refine ⟨trivial, (callsIn_wide.2 (hasRow_any B wd hi j a0 a1 a2 m n r d0 d1 d2 wr h6 false (by rw [HP.out]; symm; simp))).mono ?_⟩
      rintro e w2 ⟨rfl, hb2⟩
      have J2 := Lib.hid (abides_belowR HJ.out hJs.out hb2)
      clear c0 c1 c2 c3 c4 c5 c6 c7 hb2
      gi_wp2
      go_end0
      exact ⟨⟨_, rfl⟩, .inl ⟨_, rfl, J2.out⟩⟩
theorem rows_stops (S : Nat → Prop) (n' : Nat) (hn' : 1 ≤ n') (Bd B m n r : Nat) (a0 a1 a2 : Option Addr) (d0 d1 d2 : Nat) (wd hi : Int) (w : World) (h6 : n ≤ 6) (N : Nat) (hN : 2 ^ n = N)
    (hBd : w.heap[Bd]? = some (.cells #[.int .i8 wd, .int .i8 hi, .map (some B), .int .i8 wd, .int .i8 hi, .slice a0 m d0, .slice a1 n d1, .slice a2 r d2] 89 (0, 0))) (s1 : S Bd) (hS : ∀ k, S k → k < w.heap.size) :
    SeqStopsK Fence.wide n' Tryz.prog 86 #[.pointer (some ⟨Bd, 0, none⟩)] encR (KS S) (fun xs => xs = numsL N) (fun _ => True) N w := fun lk J Jx W hW hJ _ hY h0 =>
  rows1_in S n' hn' lk Bd B m n r a0 a1 a2 d0 d1 d2 wd hi J Jx W hJ h6 N hN (blk_below hBd hW) s1 (fun k hk => Nat.lt_of_lt_of_le (hS k hk) hW.size) hY h0
theorem enters_rows : ∀ args w, (callFunc 86 args).run Tryz.prog w = .ok (.enter 86 args) w := enters_of Tryz.func86 (by kernel_rfl) rfl
theorem rows_any (wd hi : Int) (B m n r : Nat) (a0 a1 a2 : Option Addr) (d0 d1 d2 : Nat) (w : World) :
    Calls Tryz.prog 39 #[.agg #[.int .i8 wd, .int .i8 hi, .map (some B), .int .i8 wd, .int .i8 hi, .slice a0 m d0, .slice a1 n d1, .slice a2 r d2]] w fun e w' => e = .returned (.func (.func 86) #[] #[.pointer (some ⟨w.heap.size, 0, none⟩)]) ∧ w' = w.alloc (.cells #[.int .i8 wd, .int .i8 hi, .map (some B), .int .i8 wd, .int .i8 hi, .slice a0 m d0, .slice a1 n d1, .slice a2 r d2] 89) := by
  go_enter Tryz.func39, Tryz.ntmps39
  go_wp2
  go_ret
  exact ⟨rfl, rfl⟩
/-- what has grown but for one block, behind the turn of a block that is no cells -/
theorem grown_own {w : World} {f B : Nat} (hB : w.heap.size ≤ B) : OwnFrom B (fun (_ : List R64) W => w.grownBy W (some f)) := by
  intro s X Y row hs hg hr
  refine ⟨hg.os.trans hs.os, hg.tape.trans hs.tape, hg.output.trans hs.output, Nat.le_trans hs.size hg.size, fun k hk hne => ?_⟩
  refine (hg.block k (Nat.lt_of_lt_of_le hk hs.size) (fun e => ?_)).trans (hs.block k hk hne)
  have := (hr _ e.symm).1
  omega
theorem nilI_own0 {w : World} {base : Nat} {e : TypeId} : w.ownsRow base e 1 (.slice none 0 0) 0 [] := ⟨by simp, .inl ⟨rfl, rfl⟩⟩
end Go.Proofs.YthohngkdfhpieaaGreatDoor
