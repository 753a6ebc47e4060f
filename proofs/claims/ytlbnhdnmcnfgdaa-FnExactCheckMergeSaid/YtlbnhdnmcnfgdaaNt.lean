/- Networks: the tables of nodes; what both sides make of one node. -/
import Derived.Test.YtlbnhdnmcnfgdaaNc
import Derived.Test.YtlbnhdnmcnfgdaaUs
import Derived.Laws.EntriesVeiled
import Derived.Deep.RegionHeldLaw
namespace Go.Proofs.Ytlbnhdnmcnfgdaa
open Go.ChangeShapes Go.WideShapes Go.ChangeAt Go.RowKit Go.Joins Go.Deep
set_option linter.unusedVariables false
set_option linter.unusedSimpArgs false

/-- the table of an input: one row more -/
def stepT (a j : Nat) (x : Int) : Int := Go.bits .or .u64 x (IntKind.u64.wrap (IntKind.u64.wrap (Go.bits .and .i64 ((j : Int) / 2 ^ a) 1) * 2 ^ j))
def inT (a : Nat) : Nat → Int
  | 0 => 0
  | j + 1 => stepT a j (inT a j)
theorem pow6 {n : Nat} (hn : 1 ≤ n ∧ n ≤ 6) : (n = 1 ∧ 2 ^ n = 2) ∨ (n = 2 ∧ 2 ^ n = 4) ∨ (n = 3 ∧ 2 ^ n = 8) ∨ (n = 4 ∧ 2 ^ n = 16) ∨ (n = 5 ∧ 2 ^ n = 32) ∨ (n = 6 ∧ 2 ^ n = 64) := by
  have : n = 1 ∨ n = 2 ∨ n = 3 ∨ n = 4 ∨ n = 5 ∨ n = 6 := by omega
  rcases this with rfl | rfl | rfl | rfl | rfl | rfl <;> simp
theorem pow6_le {n : Nat} (hn : 1 ≤ n ∧ n ≤ 6) : 2 ≤ 2 ^ n ∧ 2 ^ n ≤ 64 := by
  rcases pow6 hn with h | h | h | h | h | h <;> omega
theorem wrap_pow {n : Nat} (hn : 1 ≤ n ∧ n ≤ 6) : wrap64 (2 ^ n) = 2 ^ n := by
  have : n = 1 ∨ n = 2 ∨ n = 3 ∨ n = 4 ∨ n = 5 ∨ n = 6 := by omega
  rcases this with rfl | rfl | rfl | rfl | rfl | rfl <;> first | exact IntWalk.i64_in _ (by omega) | exact IntWalk.i64_in _ (by decide) | decide +kernel
theorem inT_wf (a : Nat) : ∀ j, (Lit.int .u64 (inT a j)).wf = true
  | 0 => by show (Lit.int .u64 0).wf = true; decide
  | j + 1 => by unfold inT stepT; exact wf_bits _ _ _ _
set_option maxRecDepth 100000 in
set_option maxHeartbeats 4000000 in
theorem rowsWith_any (n a : Nat) (w : World) (hn : 1 ≤ n ∧ n ≤ 6) (ha : a < n) :
    Calls Try.prog 108 #[.int .i8 n, .int .i16 a] w fun e w' => e = .returned (.int .u64 (inT a (2 ^ n))) ∧ w = w' := by
  have hr := wrap_pow hn
  obtain ⟨m, hm⟩ : ∃ m : Nat, 2 ^ n = m := ⟨_, rfl⟩
  have hml := pow6_le hn
  have hm2 : (2 : Int) ^ n = m := by rw [← hm]; push_cast; rfl
  rw [hm2] at hr
  rw [hm] at hml ⊢
  have HM := Lib.hid hm
  clear hm
  go_enter Try.func108, Try.ntmps108
  go_wp2
  go_loopw [5, 6, 9] (fun out _ i wr => ∃ j : Nat, j ≤ m ∧ i = .int .i64 j ∧ out = .int .u64 (inT a j) ∧ w = wr) (fun _ _ i _ => m - (intOf i).toNat)
  case atStart => exact ⟨0, by omega, rfl, rfl, rfl⟩
  case round =>
    obtain ⟨j, hj, rfl, rfl, rfl⟩ := hrel
    by_cases hlt : j < m
    · go_wp2
      exact ⟨⟨j + 1, by omega, by go_num, rfl, trivial⟩, by simp [intOf]; omega⟩
    · obtain rfl : j = m := by omega
      go_wp2
      go_ret
      exact ⟨rfl, rfl⟩
theorem nRows_any (n : Nat) (w : World) (hn : 1 ≤ n ∧ n ≤ 6) : Calls Try.prog 60 #[.int .i64 n] w fun e w' => e = .returned (.int .i64 (2 ^ n : Nat)) ∧ w = w' := by
  rcases pow6 hn with h | h | h | h | h | h <;> (obtain ⟨rfl, _⟩ := h; go_enter Try.func60, Try.ntmps60; go_wp2; go_ret; exact ⟨rfl, rfl⟩)
set_option maxRecDepth 100000 in
set_option maxHeartbeats 4000000 in
theorem l04Input_any (n a : Nat) (w : World) (hn : 1 ≤ n ∧ n ≤ 6) (ha : a < n) :
    Calls Try.prog 94 #[.int .i64 n, .int .i64 a] w fun e w' => e = .returned (.int .u64 (inT a (2 ^ n))) ∧ w = w' := by
  have HR := Lib.hid (fun w => nRows_any n w hn)
  have hau : IntKind.u64.wrap (a : Int) = a := IntWalk.u64_in _ (by omega)
  obtain ⟨m, hm⟩ : ∃ m : Nat, 2 ^ n = m := ⟨_, rfl⟩
  have hml := pow6_le hn
  rw [hm] at hml HR ⊢
  have HM := Lib.hid hm
  clear hm
  go_enter Try.func94, Try.ntmps94
  go_wp2
  go_loopw [5, 6] (fun out i wr => ∃ j : Nat, j ≤ m ∧ i = .int .i64 j ∧ out = .int .u64 (inT a j) ∧ w = wr) (fun _ i _ => m - (intOf i).toNat)
  case atStart => exact ⟨0, by omega, rfl, rfl, rfl⟩
  case round =>
    obtain ⟨j, hj, rfl, rfl, rfl⟩ := hrel
    have hju : IntKind.u64.wrap (j : Int) = j := IntWalk.u64_in _ (by omega)
    by_cases hlt : j < m
    · go_wp2_with fail
      refine (HR.out _).mono ?_
      rintro e w1 ⟨rfl, rfl⟩
      go_wp2
      exact ⟨⟨j + 1, by omega, by go_num, rfl, trivial⟩, by simp [intOf]; omega⟩
    · obtain rfl : j = m := by omega
      go_wp2_with fail
      refine (HR.out _).mono ?_
      rintro e w1 ⟨rfl, rfl⟩
      go_wp2
      go_ret
      exact ⟨rfl, rfl⟩
/-- all rows -/
def fullT (n : Nat) : Int := match n with | 1 => 3 | 2 => 15 | 3 => 255 | 4 => 65535 | 5 => 4294967295 | _ => 18446744073709551615
theorem allRows_any (n : Nat) (w : World) (hn : 1 ≤ n ∧ n ≤ 6) : Calls Try.prog 109 #[.int .i8 n] w fun e w' => e = .returned (.int .u64 (fullT n)) ∧ w = w' := by
  rcases pow6 hn with h | h | h | h | h | h <;> (obtain ⟨rfl, _⟩ := h; go_enter Try.func109, Try.ntmps109; go_wp2; go_ret; exact ⟨rfl, rfl⟩)
theorem l04Full_any (n : Nat) (w : World) (hn : 1 ≤ n ∧ n ≤ 6) : Calls Try.prog 93 #[.int .i64 n] w fun e w' => e = .returned (.int .u64 (fullT n)) ∧ w = w' := by
  rcases pow6 hn with h | h | h | h | h | h <;> (obtain ⟨rfl, _⟩ := h; go_enter Try.func93, Try.ntmps93; go_wp2_with fail; refine (nRows_any _ _ (by omega)).mono ?_; rintro e w1 ⟨rfl, rfl⟩; go_wp2; go_ret; exact ⟨rfl, rfl⟩)
/-- the table of a node, given those before it -/
def tabOf (n : Nat) (acc : List Int) (x : Nd) : Int :=
  if x.kind = 0 then inT x.a.toNat (2 ^ n)
  else if x.kind = 2 then Go.bits .or .u64 (acc.getD x.a.toNat 0) (acc.getD x.b.toNat 0)
  else if x.kind = 3 then Go.bits .andNot .u64 (acc.getD x.a.toNat 0) (acc.getD x.b.toNat 0)
  else fullT n
theorem fullT_wf (n : Nat) : (Lit.int .u64 (fullT n)).wf = true := by
  unfold fullT
  split <;> decide
theorem tabOf_wf (n : Nat) (acc : List Int) (x : Nd) : (Lit.int .u64 (tabOf n acc x)).wf = true := by
  unfold tabOf
  split
  · exact inT_wf _ _
  · split
    · exact wf_bits _ _ _ _
    · split
      · exact wf_bits _ _ _ _
      · exact fullT_wf n
def tabsL (n : Nat) : List Nd → List Int → List Int
  | [], acc => acc
  | x :: l, acc => tabsL n l (acc ++ [tabOf n acc x])
theorem tabsL_length (n : Nat) : ∀ (l : List Nd) (acc : List Int), (tabsL n l acc).length = acc.length + l.length
  | [], acc => by simp [tabsL]
  | x :: l, acc => by rw [tabsL, tabsL_length n l]; simp; omega
theorem tabsL_wf (n : Nat) : ∀ (l : List Nd) (acc : List Int), UssWf acc → UssWf (tabsL n l acc)
  | [], acc, h => h
  | x :: l, acc, h => tabsL_wf n l _ (fun y hy => by
    rcases List.mem_append.1 hy with hy | hy
    · exact h y hy
    · rw [List.mem_singleton.1 hy]; exact tabOf_wf n acc x)
/-- the first tables are those of the first nodes -/
theorem getD_at {l : List Int} {k : Nat} (h : k < l.length) : l.getD k 0 = l[k] := by rw [List.getD_eq_getElem?_getD, List.getElem?_eq_getElem h]; rfl
set_option maxRecDepth 100000 in
set_option maxHeartbeats 4000000 in
theorem sheetOr_any (n b o cap m ka kb : Nat) (kx : Int) (acc : List Int) (w : World) (hm : acc.length = m) (hc : UssAt w b o acc) (hb : b < w.heap.size) (hl : m ≤ cap) (h1 : ka < m) (h2 : kb < m) (hmm : m ≤ 80) :
    Calls Try.prog 105 #[.agg #[.int .i8 n, .slice (some ⟨b, o, none⟩) m cap], .agg #[.int .i8 kx, .int .i16 ka, .int .i16 kb]] w fun e w' => e = .returned (.int .u64 (Go.bits .or .u64 (acc.getD ka 0) (acc.getD kb 0))) ∧ Below w.heap.size w w' := by
  have k1 : ka < acc.length := by omega
  have k2 : kb < acc.length := by omega
  have c1 := hc ka k1
  have c2 := hc kb k2
  rw [getD_at k1, getD_at k2]
  generalize acc[ka] = x at c1
  generalize acc[kb] = y at c2
  clear hc k1 k2 hm
  go_enter Try.func105, Try.ntmps105
  go_wp2
  go_quiet (fail)
  go_wp2
  go_ret
  exact ⟨rfl, by repeat (first | with_reducible exact Below.refl _ _ | (with_reducible refine kSet ?_ ?hB _; case hB => (simp; try omega)) | with_reducible refine kAlloc ?_ _ | with_reducible refine Below.drew ?_ | with_reducible refine kDrewN ?_ _ | with_reducible refine kTrans ?_ (by assumption))⟩
set_option maxRecDepth 100000 in
set_option maxHeartbeats 4000000 in
theorem sheetUnless_any (n b o cap m ka kb : Nat) (kx : Int) (acc : List Int) (w : World) (hm : acc.length = m) (hc : UssAt w b o acc) (hb : b < w.heap.size) (hl : m ≤ cap) (h1 : ka < m) (h2 : kb < m) (hmm : m ≤ 80) :
    Calls Try.prog 106 #[.agg #[.int .i8 n, .slice (some ⟨b, o, none⟩) m cap], .agg #[.int .i8 kx, .int .i16 ka, .int .i16 kb]] w fun e w' => e = .returned (.int .u64 (Go.bits .andNot .u64 (acc.getD ka 0) (acc.getD kb 0))) ∧ Below w.heap.size w w' := by
  have k1 : ka < acc.length := by omega
  have k2 : kb < acc.length := by omega
  have c1 := hc ka k1
  have c2 := hc kb k2
  rw [getD_at k1, getD_at k2]
  generalize acc[ka] = x at c1
  generalize acc[kb] = y at c2
  clear hc k1 k2 hm
  go_enter Try.func106, Try.ntmps106
  go_wp2
  go_quiet (fail)
  go_wp2
  go_ret
  exact ⟨rfl, by repeat (first | with_reducible exact Below.refl _ _ | (with_reducible refine kSet ?_ ?hB _; case hB => (simp; try omega)) | with_reducible refine kAlloc ?_ _ | with_reducible refine Below.drew ?_ | with_reducible refine kDrewN ?_ _ | with_reducible refine kTrans ?_ (by assumption))⟩
theorem sheetInput_any (n a : Nat) (kx bx : Int) (va : Option Addr) (m cap : Nat) (w : World) (hn : 1 ≤ n ∧ n ≤ 6) (ha : a < n) :
    Calls Try.prog 103 #[.agg #[.int .i8 n, .slice va m cap], .agg #[.int .i8 kx, .int .i16 a, .int .i16 bx]] w fun e w' => e = .returned (.int .u64 (inT a (2 ^ n))) ∧ Below w.heap.size w w' := by
  go_enter Try.func103, Try.ntmps103
  go_wp2_with fail
  refine (rowsWith_any n a _ hn ha).mono ?_
  rintro e w1 ⟨rfl, rfl⟩
  go_wp2
  go_ret
  exact ⟨rfl, by repeat (first | with_reducible exact Below.refl _ _ | (with_reducible refine kSet ?_ ?hB _; case hB => (simp; try omega)) | with_reducible refine kAlloc ?_ _ | with_reducible refine Below.drew ?_ | with_reducible refine kDrewN ?_ _ | with_reducible refine kTrans ?_ (by assumption))⟩
theorem sheetOne_any (n : Nat) (kx ax bx : Int) (va : Option Addr) (m cap : Nat) (w : World) (hn : 1 ≤ n ∧ n ≤ 6) :
    Calls Try.prog 104 #[.agg #[.int .i8 n, .slice va m cap], .agg #[.int .i8 kx, .int .i16 ax, .int .i16 bx]] w fun e w' => e = .returned (.int .u64 (fullT n)) ∧ Below w.heap.size w w' := by
  go_enter Try.func104, Try.ntmps104
  go_wp2_with fail
  refine (allRows_any n _ hn).mono ?_
  rintro e w1 ⟨rfl, rfl⟩
  go_wp2
  go_ret
  exact ⟨rfl, by repeat (first | with_reducible exact Below.refl _ _ | (with_reducible refine kSet ?_ ?hB _; case hB => (simp; try omega)) | with_reducible refine kAlloc ?_ _ | with_reducible refine Below.drew ?_ | with_reducible refine kDrewN ?_ _ | with_reducible refine kTrans ?_ (by assumption))⟩
end Go.Proofs.Ytlbnhdnmcnfgdaa
