/- slices.Backward at nodes; which nodes are needed. -/
import Derived.Test.YtdnjamlibnmpfaaTn0
import Derived.RangeFuncBox
import Derived.RangeFuncNested
import Derived.RangeFuncBound
import Derived.RangeFuncCalls
import Derived.RangeFuncLeaves
import Derived.Shelf.Abstract
import Derived.Shelf.RegionOpen
import Derived.OwnWalkIn
import Derived.TacticsInMore
import Derived.LoopNIn
import Derived.LoopIn
import Derived.Outline
namespace Go.Proofs.Ytdnjamlibnmpfaa
open Go.ChangeShapes Go.WideShapes Go.ChangeAt Go.RowKit Go.Shelf Go.Joins Go.Deep
set_option linter.unusedVariables false
set_option linter.unusedSimpArgs false
attribute [local go_sem] Oper.semAt_some

abbrev NB (l : List Nd) : Type := Fin l.length
def ndOf {l : List Nd} (y : NB l) : Nd := l[y.1]
theorem ndOf_at {l : List Nd} (y : NB l) : l[y.1] = ndOf y := rfl
/-- the nodes from the last one to the first -/
def backL (l : List Nd) : (n : Nat) → n ≤ l.length → List (NB l)
  | 0, _ => []
  | i + 1, h => ⟨i, h⟩ :: backL l i (Nat.le_of_succ_le h)
def stepB {l : List Nd} (F : Nat → Bool) (y : NB l) : Nat → Bool := if F y.1 = true ∧ 2 ≤ (ndOf y).kind then useT (ndOf y) F else F
theorem backT_fold (l : List Nd) : ∀ (i : Nat) (h : i ≤ l.length) (F : Nat → Bool), backT l i F = (backL l i h).foldl stepB F
  | 0, _, F => rfl
  | i + 1, h, F => by rw [backT, backT_fold l i (Nat.le_of_succ_le h), nd_at (show i < l.length from h)]; rfl
theorem backL_length (l : List Nd) : ∀ n h, (backL l n h).length = n
  | 0, _ => rfl
  | n + 1, h => by rw [backL, List.length_cons, backL_length l n]
theorem backL_get (l : List Nd) : ∀ (n : Nat) (hn : n ≤ l.length) (j : Nat) (h : j < (backL l n hn).length) (h2 : n - 1 - j < l.length), (backL l n hn)[j] = ⟨n - 1 - j, h2⟩
  | n + 1, hn, 0, h, h2 => by simp [backL]
  | n + 1, hn, j + 1, h, h2 => by
    have h3 : j < (backL l n (Nat.le_of_succ_le hn)).length := by simpa [backL] using h
    have h4 : j < n := by rwa [backL_length] at h3
    have := backL_get l n (Nat.le_of_succ_le hn) j h3 (by omega)
    simp only [backL, List.getElem_cons_succ]
    rw [this]
    simp only [Fin.mk.injEq]
    omega
theorem backL_snoc (l : List Nd) {n j q : Nat} (hn : n ≤ l.length) (h : j < n) (hq : q < l.length) (e : q = n - 1 - j) : (backL l n hn).take (j + 1) = (backL l n hn).take j ++ [⟨q, hq⟩] := by
  have h2 : j < (backL l n hn).length := by rw [backL_length]; exact h
  subst e
  rw [List.take_succ_eq_append_getElem h2, backL_get l n hn j h2 hq]
def encB {l : List Nd} (y : NB l) : Array Value := #[.int .i64 (y.1 : Int), .agg #[.int .i8 (ndOf y).kind, .int .i16 (ndOf y).a, .int .i16 (ndOf y).b]]
/-- what lies in the blocks of S is as it was -/
structure KB (S : Nat → Prop) (W W' : World) : Prop where
  size : W.heap.size ≤ W'.heap.size
  same : ∀ k, S k → W'.heap[k]? = W.heap[k]?
theorem KB.refl (S : Nat → Prop) (W : World) : KB S W W := ⟨Nat.le_refl _, fun _ _ => rfl⟩
theorem KB.trans {S : Nat → Prop} {A B C : World} (h : KB S A B) (k : KB S B C) : KB S A C := ⟨Nat.le_trans h.size k.size, fun i hi => (k.same i hi).trans (h.same i hi)⟩
theorem KB.of_below {S : Nat → Prop} {W W' : World} (hS : ∀ k, S k → k < W.heap.size) (h : Below W.heap.size W W') : KB S W W' := ⟨h.size, fun k hk => h.block k (hS k hk)⟩
theorem KB.nds {S : Nat → Prop} {W W' : World} {b o : Nat} {l : List Nd} (h : KB S W W') (hb : S b) (hp : NdsAt W b o l) : NdsAt W' b o l := by
  intro i hi
  have hc : ∀ j, W'.cell? ⟨b, j, none⟩ = W.cell? ⟨b, j, none⟩ := fun j => World.cell?_of_block (h.same b hb)
  obtain ⟨h0, h1, h2⟩ := hp i hi
  exact ⟨(hc _).trans h0, (hc _).trans h1, (hc _).trans h2⟩
theorem enters_back : ∀ args w, (callFunc 82 args).run Try.prog w = .ok (.enter 82 args) w := enters_of Try.func82 (by kernel_rfl) rfl
theorem back_any (va : Option Addr) (n c : Nat) (w : World) :
    Calls Try.prog 77 #[.slice va n c] w fun e w' => e = .returned (.func (.func 82) #[] #[.pointer (some ⟨w.heap.size, 0, none⟩)]) ∧ w' = w.alloc (.cells #[.slice va n c] 28) := by
  go_enter Try.func77, Try.ntmps77
  go_wp2
  go_ret
  exact ⟨rfl, rfl⟩
set_option maxRecDepth 100000 in
set_option maxHeartbeats 8000000 in
theorem back1_in (S : Nat → Prop) (n' : Nat) (hn' : 1 ≤ n') (lk Bg b N cb : Nat) (l : List Nd) (hl : l.length = N) (hle : N ≤ l.length) (hN : N ≤ 1000) (J Jx : List (NB l) → World → Prop) (Wd : World) (hJ : AbidesFrom Wd.heap.size J)
    (hBd : Wd.heap[Bg]? = some (.cells #[.slice (some ⟨b, 0, none⟩) N cb] 28 (0, 0))) (hp : NdsAt Wd b 0 l) (s1 : S Bg) (s2 : S b) (hS : ∀ k, S k → k < Wd.heap.size)
    (hY : ∀ pre x W1, J pre W1 → pre.length < N → YieldAt Fence.wide (n' - 1) Try.prog lk (encB x) W1 fun e W' =>
      (e = .returned (.bool true) ∧ J (pre ++ [x]) W' ∧ KB S W1 W') ∨ (e = .returned (.bool false) ∧ Jx (pre ++ [x]) W'))
    (h0 : J [] Wd) :
    CallsIn Fence.wide n' Try.prog 82 #[.func (.yield lk) #[] #[], .pointer (some ⟨Bg, 0, none⟩)] Wd fun e W' => (∃ v, e = .returned v) ∧
      ((∃ ys, ys = backL l N hle ∧ J ys W') ∨ (∃ pre, True ∧ Jx pre W')) := by
  have HJ := Lib.hid hJ
  have HS := Lib.hid hS
  have HD := Lib.hid hBd
  have HP := Lib.hid hp
  have Hl := Lib.hid hl
  have c0 : Wd.cell? ⟨Bg, 0, none⟩ = some (.slice (some ⟨b, 0, none⟩) N cb) := cell_of_row _ _ 0 _ _ _ hBd
  have hwN : IntKind.i64.wrap ((N : Int) - 1) = N - 1 := IntWalk.i64_in _ (by omega)
  clear hJ hS hBd hp hl
  refine callsIn_of_wp Try.func82 rfl trivial ?_ rfl
  simp only [Try.ntmps82, List.size_toArray, List.length_cons, List.length_nil, Nat.reduceAdd, Nat.reduceSub, Array.replicate_succ, Array.replicate_zero, List.push_toArray, List.append_toArray, List.nil_append, List.cons_append]
  gi_wp2
  gi_loopw [3] (fun i wr => ∃ (j : Nat) (v : Int), j ≤ N ∧ i = .int .i64 v ∧ v + 1 + (j : Int) = (N : Int) ∧ Hid (J ((backL l N hle).take j) wr) ∧ KB S Wd wr) (fun i _ => (intOf i + 1).toNat)
  case atStart => exact ⟨0, _, Nat.zero_le _, rfl, by omega, Lib.hid (by simpa using h0), KB.refl _ _⟩
  case round =>
    clear c0 hwN
    obtain ⟨j, v, hj, rfl, hv, hJs, hks⟩ := hrel
    have hGr := (hks.same Bg s1).trans HD.out
    have c0 : wr.cell? ⟨Bg, 0, none⟩ = some (.slice (some ⟨b, 0, none⟩) N cb) := cell_of_row _ _ 0 _ _ _ hGr
    have lg2 := blk_lt hGr
    have hpr := Lib.hid (hks.nds s2 HP.out)
    clear hGr
    by_cases hlt : j < N
    · obtain ⟨q, rfl⟩ : ∃ q : Nat, v = q := ⟨v.toNat, by omega⟩
      have hq : q = N - 1 - j := by omega
      have hqN : q < N := by omega
      have hlk : q < l.length := by rw [Hl.out]; exact hqN
      have hpc := hpr.out q hlk
      have hsn := backL_snoc l hle hlt hlk hq
      have HSN := Lib.hid hsn
      have lb : b < wr.heap.size := Nat.lt_of_lt_of_le (HS.out b s2) hks.size
      obtain ⟨fn, tmps, assign, body, hy, hR⟩ := hY _ ⟨q, hlk⟩ _ hJs.out (by rw [List.length_take, backL_length]; omega)
      unfold encB ndOf at hy
      simp only at hy
      generalize l[q] = x at hpc hy
      obtain ⟨a0, a1, a2⟩ := hpc
      simp only [Nat.zero_add] at a0 a1 a2
      have HK := Lib.hid hks
      have hwq : IntKind.i64.wrap ((q : Int) - 1) = q - 1 := IntWalk.i64_in _ (by omega)
      clear hks hq hsn hpr
      gi_wp2
      refine hR.mono ?_
      rintro e W3 (⟨rfl, hJ3, hk3⟩ | ⟨rfl, hJx3⟩)
      · have J3 := Lib.hid (show J ((backL l N hle).take (j + 1)) W3 by rw [HSN.out]; exact hJ3)
        have K3 := Lib.hid (HK.out.trans hk3)
        clear hJ3 HK hk3 HSN
        gi_wp2
        go_roundw
        case rel => exact ⟨j + 1, _, by omega, rfl, by push_cast; omega, J3, K3.out⟩
        case measure => simp [intOf] <;> omega
      · gi_wp2
        refine bodyPost_ret (results_none rfl _ _ _) rfl ?_
        exact ⟨⟨_, rfl⟩, .inr ⟨_, trivial, hJx3⟩⟩
    · obtain rfl : j = N := by omega
      obtain rfl : v = -1 := by omega
      have J2 := Lib.hid (show J (backL l j hle) wr by have h := hJs.out; rwa [List.take_of_length_le (by rw [backL_length]; exact Nat.le_refl _)] at h)
      clear hJs hks c0 hpr
      gi_wp2
      go_end0
      exact ⟨⟨_, rfl⟩, .inl ⟨_, rfl, J2.out⟩⟩
theorem back_stops (S : Nat → Prop) (n' : Nat) (hn' : 1 ≤ n') (Bg b N cb : Nat) (l : List Nd) (hl : l.length = N) (hle : N ≤ l.length) (hN : N ≤ 1000) (w : World)
    (hBd : w.heap[Bg]? = some (.cells #[.slice (some ⟨b, 0, none⟩) N cb] 28 (0, 0))) (hp : NdsAt w b 0 l) (s1 : S Bg) (s2 : S b) (hS : ∀ k, S k → k < w.heap.size) :
    SeqStopsK Fence.wide n' Try.prog 82 #[.pointer (some ⟨Bg, 0, none⟩)] encB (KB S) (fun xs => xs = backL l N hle) (fun _ => True) N w := fun lk J Jx Wd hWd hJ _ hY h0 =>
  back1_in S n' hn' lk Bg b N cb l hl hle hN J Jx Wd hJ (blk_below hBd hWd) (hp.below hWd (hS b s2)) s1 s2 (fun k hk => Nat.lt_of_lt_of_le (hS k hk) hWd.size) hY h0
end Go.Proofs.Ytdnjamlibnmpfaa
