/- Several texts in one: Nt, Nt2, Nt3, Nt4, Nt5. -/
import Derived.Test.YtdnjamlibnmpfaaG20
import Derived.Test.YtdnjamlibnmpfaaUs
import Derived.Laws.EntriesVeiled
import Derived.Deep.RegionHeldLaw
/- Networks: the tables of nodes; what both sides make of one node. -/
namespace Go.Proofs.Ytdnjamlibnmpfaa
open Go.ChangeShapes Go.WideShapes Go.ChangeAt Go.RowKit Go.Joins Go.Deep
set_option linter.unusedVariables false
set_option linter.unusedSimpArgs false

/-- the table of an input: one row more -/
def stepT (a j : Nat) (x : Int) : Int := Go.bits .or .u64 x (IntKind.u64.wrap (IntKind.u64.wrap (Go.bits .and .i64 ((j : Int) / 2 ^ a) 1) * 2 ^ j))
def inT (a : Nat) : Nat → Int
  | 0 => 0
  | j + 1 => stepT a j (inT a j)
theorem pow6 {n : Nat} (hn : 1 ≤ n ∧ n ≤ 6) : (n = 1 ∧ 2 ^ n = 2) ∨ (n = 2 ∧ 2 ^ n = 4) ∨ (n = 3 ∧ 2 ^ n = 8) ∨ (n = 4 ∧ 2 ^ n = 16) ∨ (n = 5 ∧ 2 ^ n = 32) ∨ (n = 6 ∧ 2 ^ n = 64) := by
  have : n = 1 ∨ n = 2 ∨ n = 3 ∨ n = 4 ∨ n = 5 ∨ n = 6 := by omega
  rcases this with rfl | rfl | rfl | rfl | rfl | rfl <;> simp
theorem pow6_le {n : Nat} (hn : 1 ≤ n ∧ n ≤ 6) : 2 ≤ 2 ^ n ∧ 2 ^ n ≤ 64 := by
  rcases pow6 hn with h | h | h | h | h | h <;> omega
theorem wrap_pow {n : Nat} (hn : 1 ≤ n ∧ n ≤ 6) : wrap64 (2 ^ n) = 2 ^ n := by
  have : n = 1 ∨ n = 2 ∨ n = 3 ∨ n = 4 ∨ n = 5 ∨ n = 6 := by omega
  rcases this with rfl | rfl | rfl | rfl | rfl | rfl <;> first | exact IntWalk.i64_in _ (by omega) | exact IntWalk.i64_in _ (by decide) | decide +kernel
theorem inT_wf (a : Nat) : ∀ j, (Lit.int .u64 (inT a j)).wf = true
  | 0 => by show (Lit.int .u64 0).wf = true; decide
  | j + 1 => by unfold inT stepT; exact wf_bits _ _ _ _
set_option maxRecDepth 100000 in
set_option maxHeartbeats 4000000 in
theorem rowsWith_any (n a : Nat) (w : World) (hn : 1 ≤ n ∧ n ≤ 6) (ha : a < n) :
    Calls Try.prog 83 #[.int .i8 n, .int .i16 a] w fun e w' => e = .returned (.int .u64 (inT a (2 ^ n))) ∧ w = w' := by
  have hr := wrap_pow hn
  obtain ⟨m, hm⟩ : ∃ m : Nat, 2 ^ n = m := ⟨_, rfl⟩
  have hml := pow6_le hn
  have hm2 : (2 : Int) ^ n = m := by rw [← hm]; push_cast; rfl
  rw [hm2] at hr
  rw [hm] at hml ⊢
  have HM := Lib.hid hm
  clear hm
  go_enter Try.func83, Try.ntmps83
  go_wp2
  go_loopw [5, 6, 9] (fun out _ i wr => ∃ j : Nat, j ≤ m ∧ i = .int .i64 j ∧ out = .int .u64 (inT a j) ∧ w = wr) (fun _ _ i _ => m - (intOf i).toNat)
  case atStart => exact ⟨0, by omega, rfl, rfl, rfl⟩
  case round =>
    obtain ⟨j, hj, rfl, rfl, rfl⟩ := hrel
    by_cases hlt : j < m
    · go_wp2
      exact ⟨⟨j + 1, by omega, by go_num, rfl, trivial⟩, by simp [intOf]; omega⟩
    · obtain rfl : j = m := by omega
      go_wp2
      go_ret
      exact ⟨rfl, rfl⟩
theorem nRows_any (n : Nat) (w : World) (hn : 1 ≤ n ∧ n ≤ 6) : Calls Try.prog 65 #[.int .i64 n] w fun e w' => e = .returned (.int .i64 (2 ^ n : Nat)) ∧ w = w' := by
  rcases pow6 hn with h | h | h | h | h | h <;> (obtain ⟨rfl, _⟩ := h; go_enter Try.func65, Try.ntmps65; go_wp2; go_ret; exact ⟨rfl, rfl⟩)
set_option maxRecDepth 100000 in
set_option maxHeartbeats 4000000 in
theorem l04Input_any (n a : Nat) (w : World) (hn : 1 ≤ n ∧ n ≤ 6) (ha : a < n) :
    Calls Try.prog 73 #[.int .i64 n, .int .i64 a] w fun e w' => e = .returned (.int .u64 (inT a (2 ^ n))) ∧ w = w' := by
  have HR := Lib.hid (fun w => nRows_any n w hn)
  have hau : IntKind.u64.wrap (a : Int) = a := IntWalk.u64_in _ (by omega)
  obtain ⟨m, hm⟩ : ∃ m : Nat, 2 ^ n = m := ⟨_, rfl⟩
  have hml := pow6_le hn
  rw [hm] at hml HR ⊢
  have HM := Lib.hid hm
  clear hm
  go_enter Try.func73, Try.ntmps73
  go_wp2
  go_loopw [5, 6] (fun out i wr => ∃ j : Nat, j ≤ m ∧ i = .int .i64 j ∧ out = .int .u64 (inT a j) ∧ w = wr) (fun _ i _ => m - (intOf i).toNat)
  case atStart => exact ⟨0, by omega, rfl, rfl, rfl⟩
  case round =>
    obtain ⟨j, hj, rfl, rfl, rfl⟩ := hrel
    have hju : IntKind.u64.wrap (j : Int) = j := IntWalk.u64_in _ (by omega)
    by_cases hlt : j < m
    · go_wp2_with fail
      refine (HR.out _).mono ?_
      rintro e w1 ⟨rfl, rfl⟩
      go_wp2
      exact ⟨⟨j + 1, by omega, by go_num, rfl, trivial⟩, by simp [intOf]; omega⟩
    · obtain rfl : j = m := by omega
      go_wp2_with fail
      refine (HR.out _).mono ?_
      rintro e w1 ⟨rfl, rfl⟩
      go_wp2
      go_ret
      exact ⟨rfl, rfl⟩
/-- all rows -/
def fullT (n : Nat) : Int := match n with | 1 => 3 | 2 => 15 | 3 => 255 | 4 => 65535 | 5 => 4294967295 | _ => 18446744073709551615
theorem allRows_any (n : Nat) (w : World) (hn : 1 ≤ n ∧ n ≤ 6) : Calls Try.prog 49 #[.int .i8 n] w fun e w' => e = .returned (.int .u64 (fullT n)) ∧ w = w' := by
  rcases pow6 hn with h | h | h | h | h | h <;> (obtain ⟨rfl, _⟩ := h; go_enter Try.func49, Try.ntmps49; go_wp2; go_ret; exact ⟨rfl, rfl⟩)
theorem l04Full_any (n : Nat) (w : World) (hn : 1 ≤ n ∧ n ≤ 6) : Calls Try.prog 46 #[.int .i64 n] w fun e w' => e = .returned (.int .u64 (fullT n)) ∧ w = w' := by
  rcases pow6 hn with h | h | h | h | h | h <;> (obtain ⟨rfl, _⟩ := h; go_enter Try.func46, Try.ntmps46; go_wp2_with fail; refine (nRows_any _ _ (by omega)).mono ?_; rintro e w1 ⟨rfl, rfl⟩; go_wp2; go_ret; exact ⟨rfl, rfl⟩)
/-- the table of a node, given those before it -/
def tabOf (n : Nat) (acc : List Int) (x : Nd) : Int :=
  if x.kind = 0 then inT x.a.toNat (2 ^ n)
  else if x.kind = 2 then Go.bits .or .u64 (acc.getD x.a.toNat 0) (acc.getD x.b.toNat 0)
  else if x.kind = 3 then Go.bits .andNot .u64 (acc.getD x.a.toNat 0) (acc.getD x.b.toNat 0)
  else fullT n
theorem fullT_wf (n : Nat) : (Lit.int .u64 (fullT n)).wf = true := by
  unfold fullT
  split <;> decide
theorem tabOf_wf (n : Nat) (acc : List Int) (x : Nd) : (Lit.int .u64 (tabOf n acc x)).wf = true := by
  unfold tabOf
  split
  · exact inT_wf _ _
  · split
    · exact wf_bits _ _ _ _
    · split
      · exact wf_bits _ _ _ _
      · exact fullT_wf n
def tabsL (n : Nat) : List Nd → List Int → List Int
  | [], acc => acc
  | x :: l, acc => tabsL n l (acc ++ [tabOf n acc x])
theorem tabsL_length (n : Nat) : ∀ (l : List Nd) (acc : List Int), (tabsL n l acc).length = acc.length + l.length
  | [], acc => by simp [tabsL]
  | x :: l, acc => by rw [tabsL, tabsL_length n l]; simp; omega
theorem tabsL_wf (n : Nat) : ∀ (l : List Nd) (acc : List Int), UssWf acc → UssWf (tabsL n l acc)
  | [], acc, h => h
  | x :: l, acc, h => tabsL_wf n l _ (fun y hy => by
    rcases List.mem_append.1 hy with hy | hy
    · exact h y hy
    · rw [List.mem_singleton.1 hy]; exact tabOf_wf n acc x)
/-- the first tables are those of the first nodes -/
theorem getD_at {l : List Int} {k : Nat} (h : k < l.length) : l.getD k 0 = l[k] := by rw [List.getD_eq_getElem?_getD, List.getElem?_eq_getElem h]; rfl
set_option maxRecDepth 100000 in
set_option maxHeartbeats 4000000 in
theorem sheetOr_any (n b o cap m ka kb : Nat) (kx : Int) (acc : List Int) (w : World) (hm : acc.length = m) (hc : UssAt w b o acc) (hb : b < w.heap.size) (hl : m ≤ cap) (h1 : ka < m) (h2 : kb < m) (hmm : m ≤ 80) :
    Calls Try.prog 80 #[.agg #[.int .i8 n, .slice (some ⟨b, o, none⟩) m cap], .agg #[.int .i8 kx, .int .i16 ka, .int .i16 kb]] w fun e w' => e = .returned (.int .u64 (Go.bits .or .u64 (acc.getD ka 0) (acc.getD kb 0))) ∧ Below w.heap.size w w' := by
  have k1 : ka < acc.length := by omega
  have k2 : kb < acc.length := by omega
  have c1 := hc ka k1
  have c2 := hc kb k2
  rw [getD_at k1, getD_at k2]
  generalize acc[ka] = x at c1
  generalize acc[kb] = y at c2
  clear hc k1 k2 hm
  go_enter Try.func80, Try.ntmps80
  go_wp2
  go_quiet (fail)
  go_wp2
  go_ret
  exact ⟨rfl, by repeat (first | with_reducible exact Below.refl _ _ | (with_reducible refine kSet ?_ ?hB _; case hB => (simp; try omega)) | with_reducible refine kAlloc ?_ _ | with_reducible refine Below.drew ?_ | with_reducible refine kDrewN ?_ _ | with_reducible refine kTrans ?_ (by assumption))⟩
set_option maxRecDepth 100000 in
set_option maxHeartbeats 4000000 in
theorem sheetUnless_any (n b o cap m ka kb : Nat) (kx : Int) (acc : List Int) (w : World) (hm : acc.length = m) (hc : UssAt w b o acc) (hb : b < w.heap.size) (hl : m ≤ cap) (h1 : ka < m) (h2 : kb < m) (hmm : m ≤ 80) :
    Calls Try.prog 81 #[.agg #[.int .i8 n, .slice (some ⟨b, o, none⟩) m cap], .agg #[.int .i8 kx, .int .i16 ka, .int .i16 kb]] w fun e w' => e = .returned (.int .u64 (Go.bits .andNot .u64 (acc.getD ka 0) (acc.getD kb 0))) ∧ Below w.heap.size w w' := by
  have k1 : ka < acc.length := by omega
  have k2 : kb < acc.length := by omega
  have c1 := hc ka k1
  have c2 := hc kb k2
  rw [getD_at k1, getD_at k2]
  generalize acc[ka] = x at c1
  generalize acc[kb] = y at c2
  clear hc k1 k2 hm
  go_enter Try.func81, Try.ntmps81
  go_wp2
  go_quiet (fail)
  go_wp2
  go_ret
  exact ⟨rfl, by repeat (first | with_reducible exact Below.refl _ _ | (with_reducible refine kSet ?_ ?hB _; case hB => (simp; try omega)) | with_reducible refine kAlloc ?_ _ | with_reducible refine Below.drew ?_ | with_reducible refine kDrewN ?_ _ | with_reducible refine kTrans ?_ (by assumption))⟩
theorem sheetInput_any (n a : Nat) (kx bx : Int) (va : Option Addr) (m cap : Nat) (w : World) (hn : 1 ≤ n ∧ n ≤ 6) (ha : a < n) :
    Calls Try.prog 78 #[.agg #[.int .i8 n, .slice va m cap], .agg #[.int .i8 kx, .int .i16 a, .int .i16 bx]] w fun e w' => e = .returned (.int .u64 (inT a (2 ^ n))) ∧ Below w.heap.size w w' := by
  go_enter Try.func78, Try.ntmps78
  go_wp2_with fail
  refine (rowsWith_any n a _ hn ha).mono ?_
  rintro e w1 ⟨rfl, rfl⟩
  go_wp2
  go_ret
  exact ⟨rfl, by repeat (first | with_reducible exact Below.refl _ _ | (with_reducible refine kSet ?_ ?hB _; case hB => (simp; try omega)) | with_reducible refine kAlloc ?_ _ | with_reducible refine Below.drew ?_ | with_reducible refine kDrewN ?_ _ | with_reducible refine kTrans ?_ (by assumption))⟩
theorem sheetOne_any (n : Nat) (kx ax bx : Int) (va : Option Addr) (m cap : Nat) (w : World) (hn : 1 ≤ n ∧ n ≤ 6) :
    Calls Try.prog 79 #[.agg #[.int .i8 n, .slice va m cap], .agg #[.int .i8 kx, .int .i16 ax, .int .i16 bx]] w fun e w' => e = .returned (.int .u64 (fullT n)) ∧ Below w.heap.size w w' := by
  go_enter Try.func79, Try.ntmps79
  go_wp2_with fail
  refine (allRows_any n _ hn).mono ?_
  rintro e w1 ⟨rfl, rfl⟩
  go_wp2
  go_ret
  exact ⟨rfl, by repeat (first | with_reducible exact Below.refl _ _ | (with_reducible refine kSet ?_ ?hB _; case hB => (simp; try omega)) | with_reducible refine kAlloc ?_ _ | with_reducible refine Below.drew ?_ | with_reducible refine kDrewN ?_ _ | with_reducible refine kTrans ?_ (by assumption))⟩
end Go.Proofs.Ytdnjamlibnmpfaa

/- Networks: the tables of all nodes; both sides. -/
namespace Go.Proofs.Ytdnjamlibnmpfaa
open Go.ChangeShapes Go.WideShapes Go.ChangeAt Go.RowKit Go.Joins Go.Deep
set_option linter.unusedVariables false
set_option linter.unusedSimpArgs false

theorem nilU_owns {w : World} {base : Nat} {e : TypeId} : w.ownsRow base e 1 (.slice none 0 0) 0 (flatUs []) := ⟨by simp [flatUs], .inl ⟨rfl, rfl⟩⟩
theorem slUs_of_owns {w : World} {base n : Nat} {e : TypeId} {v : Value} {l : List Int} (h : w.ownsRow base e 1 v n (flatUs l)) : SlUs w l v := (SlWUs.of_owns h).sl

set_option maxRecDepth 100000 in
set_option maxHeartbeats 4000000 in
theorem tableOf_any (n : Nat) (va : Option Addr) (m cap : Nat) (acc : List Int) (x : Nd) (w : World) (hn : 1 ≤ n ∧ n ≤ 6) (hm : acc.length = m) (hmm : m ≤ 80) (hs : SlUs w acc (.slice va m cap)) (hx : nodeOk n m x = true) :
    Calls Try.prog 74 #[.agg #[.int .i8 n, .slice va m cap], .agg #[.int .i8 x.kind, .int .i16 x.a, .int .i16 x.b]] w fun e w' => e = .returned (.int .u64 (tabOf n acc x)) ∧ Below w.heap.size w w' := by
  obtain ⟨xk, xa, xb⟩ := x
  rcases nodeOk_cases hx with ⟨k0, hA, hB⟩ | ⟨k1, hA, hB⟩ | ⟨k2, hA, hB⟩
  · simp only at k0 hA hB
    obtain ⟨a, rfl⟩ : ∃ a : Nat, xa = a := ⟨xa.toNat, by omega⟩
    subst k0 hB
    have e : tabOf n acc ⟨0, a, 0⟩ = inT a (2 ^ n) := by unfold tabOf; rw [if_pos rfl]; rfl
    rw [e]
    clear hs hx e hm
    obtain ⟨W, hW⟩ : ∃ W, ((w.alloc (.cells #[.int .i8 n, .slice va m cap] 106)).alloc (.cells #[.int .i8 0, .int .i16 a, .int .i16 0] 48)).alloc (.cells #[.func (.func 78) #[] #[], .func (.func 79) #[] #[], .func (.func 80) #[] #[], .func (.func 81) #[] #[]] 121) = W := ⟨_, rfl⟩
    have kW : Below w.heap.size w W := by rw [← hW]; exact kAlloc (kAlloc (kAlloc (Below.refl _ _) _) _) _
    have bS : W.heap[w.heap.size]? = some (.cells #[.int .i8 n, .slice va m cap] 106 (0, 0)) := by
      rw [← hW]; exact blk_below (nNew _ _) (kAlloc (kAlloc (Below.refl _ _) _) _)
    have bN : W.heap[w.heap.size + 1]? = some (.cells #[.int .i8 0, .int .i16 a, .int .i16 0] 48 (0, 0)) := by
      rw [← hW]
      have h := nNew (w.alloc (.cells #[.int .i8 n, .slice va m cap] 106)) (.cells #[.int .i8 0, .int .i16 a, .int .i16 0] 48)
      simp only [World.size_alloc] at h
      exact blk_below h (kAlloc (Below.refl _ _) _)
    have bK : W.heap[w.heap.size + 1 + 1]? = some (.cells #[.func (.func 78) #[] #[], .func (.func 79) #[] #[], .func (.func 80) #[] #[], .func (.func 81) #[] #[]] 121 (0, 0)) := by
      rw [← hW]
      have h := nNew ((w.alloc (.cells #[.int .i8 n, .slice va m cap] 106)).alloc (.cells #[.int .i8 0, .int .i16 a, .int .i16 0] 48)) (.cells #[.func (.func 78) #[] #[], .func (.func 79) #[] #[], .func (.func 80) #[] #[], .func (.func 81) #[] #[]] 121)
      simpa only [World.size_alloc] using h
    have s0 : W.cell? ⟨w.heap.size, 0, none⟩ = some (.int .i8 n) := cell_of_row _ _ 0 _ _ _ bS
    have s1 : W.cell? ⟨w.heap.size, 1, none⟩ = some (.slice va m cap) := cell_of_row _ _ 1 _ _ _ bS
    have n0 : W.cell? ⟨w.heap.size + 1, 0, none⟩ = some (.int .i8 0) := cell_of_row _ _ 0 _ _ _ bN
    have n1 : W.cell? ⟨w.heap.size + 1, 1, none⟩ = some (.int .i16 a) := cell_of_row _ _ 1 _ _ _ bN
    have n2 : W.cell? ⟨w.heap.size + 1, 2, none⟩ = some (.int .i16 0) := cell_of_row _ _ 2 _ _ _ bN
    have c0 : W.cell? ⟨w.heap.size + 1 + 1, 0, none⟩ = some (.func (.func 78) #[] #[]) := cell_of_row _ _ 0 _ _ _ bK
    have c1 : W.cell? ⟨w.heap.size + 1 + 1, 1, none⟩ = some (.func (.func 79) #[] #[]) := cell_of_row _ _ 1 _ _ _ bK
    have c2 : W.cell? ⟨w.heap.size + 1 + 1, 2, none⟩ = some (.func (.func 80) #[] #[]) := cell_of_row _ _ 2 _ _ _ bK
    have c3 : W.cell? ⟨w.heap.size + 1 + 1, 3, none⟩ = some (.func (.func 81) #[] #[]) := cell_of_row _ _ 3 _ _ _ bK
    have HW := Lib.hid hW
    have KW := Lib.hid kW
    clear bS bN bK hW kW
    go_enter Try.func74, Try.ntmps74
    go_upto_region 2 with fail
    try rw [HW.out]
    go_still_tail 6, (by kernel_rfl)
    change wpList _ _ _ _ _ W.drew
    have kD : Below w.heap.size w W.drew := Below.drew KW.out
    generalize W.drew = W2 at kD ⊢
    clear s0 s1 n0 n1 n2 c0 c1 c2 c3 HW KW
    go_wp2_with fail
    refine (sheetInput_any n a 0 0 va m cap _ hn (by omega)).mono ?_
    rintro e w1 ⟨rfl, hb⟩
    go_wp2
    go_ret
    exact ⟨rfl, kTrans kD hb⟩
  · simp only at k1 hA hB
    subst k1 hA hB
    have e : tabOf n acc ⟨1, 0, 0⟩ = fullT n := rfl
    rw [e]
    clear hs hx e hm
    obtain ⟨W, hW⟩ : ∃ W, ((w.alloc (.cells #[.int .i8 n, .slice va m cap] 106)).alloc (.cells #[.int .i8 1, .int .i16 0, .int .i16 0] 48)).alloc (.cells #[.func (.func 78) #[] #[], .func (.func 79) #[] #[], .func (.func 80) #[] #[], .func (.func 81) #[] #[]] 121) = W := ⟨_, rfl⟩
    have kW : Below w.heap.size w W := by rw [← hW]; exact kAlloc (kAlloc (kAlloc (Below.refl _ _) _) _) _
    have bS : W.heap[w.heap.size]? = some (.cells #[.int .i8 n, .slice va m cap] 106 (0, 0)) := by
      rw [← hW]; exact blk_below (nNew _ _) (kAlloc (kAlloc (Below.refl _ _) _) _)
    have bN : W.heap[w.heap.size + 1]? = some (.cells #[.int .i8 1, .int .i16 0, .int .i16 0] 48 (0, 0)) := by
      rw [← hW]
      have h := nNew (w.alloc (.cells #[.int .i8 n, .slice va m cap] 106)) (.cells #[.int .i8 1, .int .i16 0, .int .i16 0] 48)
      simp only [World.size_alloc] at h
      exact blk_below h (kAlloc (Below.refl _ _) _)
    have bK : W.heap[w.heap.size + 1 + 1]? = some (.cells #[.func (.func 78) #[] #[], .func (.func 79) #[] #[], .func (.func 80) #[] #[], .func (.func 81) #[] #[]] 121 (0, 0)) := by
      rw [← hW]
      have h := nNew ((w.alloc (.cells #[.int .i8 n, .slice va m cap] 106)).alloc (.cells #[.int .i8 1, .int .i16 0, .int .i16 0] 48)) (.cells #[.func (.func 78) #[] #[], .func (.func 79) #[] #[], .func (.func 80) #[] #[], .func (.func 81) #[] #[]] 121)
      simpa only [World.size_alloc] using h
    have s0 : W.cell? ⟨w.heap.size, 0, none⟩ = some (.int .i8 n) := cell_of_row _ _ 0 _ _ _ bS
    have s1 : W.cell? ⟨w.heap.size, 1, none⟩ = some (.slice va m cap) := cell_of_row _ _ 1 _ _ _ bS
    have n0 : W.cell? ⟨w.heap.size + 1, 0, none⟩ = some (.int .i8 1) := cell_of_row _ _ 0 _ _ _ bN
    have n1 : W.cell? ⟨w.heap.size + 1, 1, none⟩ = some (.int .i16 0) := cell_of_row _ _ 1 _ _ _ bN
    have n2 : W.cell? ⟨w.heap.size + 1, 2, none⟩ = some (.int .i16 0) := cell_of_row _ _ 2 _ _ _ bN
    have c0 : W.cell? ⟨w.heap.size + 1 + 1, 0, none⟩ = some (.func (.func 78) #[] #[]) := cell_of_row _ _ 0 _ _ _ bK
    have c1 : W.cell? ⟨w.heap.size + 1 + 1, 1, none⟩ = some (.func (.func 79) #[] #[]) := cell_of_row _ _ 1 _ _ _ bK
    have c2 : W.cell? ⟨w.heap.size + 1 + 1, 2, none⟩ = some (.func (.func 80) #[] #[]) := cell_of_row _ _ 2 _ _ _ bK
    have c3 : W.cell? ⟨w.heap.size + 1 + 1, 3, none⟩ = some (.func (.func 81) #[] #[]) := cell_of_row _ _ 3 _ _ _ bK
    have HW := Lib.hid hW
    have KW := Lib.hid kW
    clear bS bN bK hW kW
    go_enter Try.func74, Try.ntmps74
    go_upto_region 2 with fail
    try rw [HW.out]
    go_still_tail 6, (by kernel_rfl)
    change wpList _ _ _ _ _ W.drew
    have kD : Below w.heap.size w W.drew := Below.drew KW.out
    generalize W.drew = W2 at kD ⊢
    clear s0 s1 n0 n1 n2 c0 c1 c2 c3 HW KW
    go_wp2_with fail
    refine (sheetOne_any n 1 0 0 va m cap _ hn).mono ?_
    rintro e w1 ⟨rfl, hb⟩
    go_wp2
    go_ret
    exact ⟨rfl, kTrans kD hb⟩
  · simp only at k2 hA hB
    obtain ⟨a, rfl⟩ : ∃ a : Nat, xa = a := ⟨xa.toNat, by omega⟩
    obtain ⟨b, rfl⟩ : ∃ b : Nat, xb = b := ⟨xb.toNat, by omega⟩
    have hs2 : ∃ bb oo, va = some ⟨bb, oo, none⟩ ∧ UssAt w bb oo acc ∧ bb < w.heap.size ∧ m ≤ cap := by
      generalize hv : Value.slice va m cap = v at hs
      cases hs with
      | empty _ _ h => rw [h] at hm; simp at hm; omega
      | mk bb oo cc h1 h2 h3 =>
        cases hv
        exact ⟨bb, oo, rfl, h1, h2, h3⟩
    obtain ⟨bb, oo, rfl, hc, hbb, hcap⟩ := hs2
    clear hs
    have HC := Lib.hid (fun W (hW : Below w.heap.size w W) => hc.below hW hbb)
    have hz := fun W (hW : Below w.heap.size w W) => Nat.lt_of_lt_of_le hbb hW.size
    clear hc hx
    rcases k2 with k2 | k2
    · subst k2
      have e : tabOf n acc ⟨2, a, b⟩ = Go.bits .or .u64 (acc.getD a 0) (acc.getD b 0) := rfl
      rw [e]
      clear e
      obtain ⟨W, hW⟩ : ∃ W, ((w.alloc (.cells #[.int .i8 n, .slice (some ⟨bb, oo, none⟩) m cap] 106)).alloc (.cells #[.int .i8 2, .int .i16 a, .int .i16 b] 48)).alloc (.cells #[.func (.func 78) #[] #[], .func (.func 79) #[] #[], .func (.func 80) #[] #[], .func (.func 81) #[] #[]] 121) = W := ⟨_, rfl⟩
      have kW : Below w.heap.size w W := by rw [← hW]; exact kAlloc (kAlloc (kAlloc (Below.refl _ _) _) _) _
      have bS : W.heap[w.heap.size]? = some (.cells #[.int .i8 n, .slice (some ⟨bb, oo, none⟩) m cap] 106 (0, 0)) := by
        rw [← hW]; exact blk_below (nNew _ _) (kAlloc (kAlloc (Below.refl _ _) _) _)
      have bN : W.heap[w.heap.size + 1]? = some (.cells #[.int .i8 2, .int .i16 a, .int .i16 b] 48 (0, 0)) := by
        rw [← hW]
        have h := nNew (w.alloc (.cells #[.int .i8 n, .slice (some ⟨bb, oo, none⟩) m cap] 106)) (.cells #[.int .i8 2, .int .i16 a, .int .i16 b] 48)
        simp only [World.size_alloc] at h
        exact blk_below h (kAlloc (Below.refl _ _) _)
      have bK : W.heap[w.heap.size + 1 + 1]? = some (.cells #[.func (.func 78) #[] #[], .func (.func 79) #[] #[], .func (.func 80) #[] #[], .func (.func 81) #[] #[]] 121 (0, 0)) := by
        rw [← hW]
        have h := nNew ((w.alloc (.cells #[.int .i8 n, .slice (some ⟨bb, oo, none⟩) m cap] 106)).alloc (.cells #[.int .i8 2, .int .i16 a, .int .i16 b] 48)) (.cells #[.func (.func 78) #[] #[], .func (.func 79) #[] #[], .func (.func 80) #[] #[], .func (.func 81) #[] #[]] 121)
        simpa only [World.size_alloc] using h
      have s0 : W.cell? ⟨w.heap.size, 0, none⟩ = some (.int .i8 n) := cell_of_row _ _ 0 _ _ _ bS
      have s1 : W.cell? ⟨w.heap.size, 1, none⟩ = some (.slice (some ⟨bb, oo, none⟩) m cap) := cell_of_row _ _ 1 _ _ _ bS
      have n0 : W.cell? ⟨w.heap.size + 1, 0, none⟩ = some (.int .i8 2) := cell_of_row _ _ 0 _ _ _ bN
      have n1 : W.cell? ⟨w.heap.size + 1, 1, none⟩ = some (.int .i16 a) := cell_of_row _ _ 1 _ _ _ bN
      have n2 : W.cell? ⟨w.heap.size + 1, 2, none⟩ = some (.int .i16 b) := cell_of_row _ _ 2 _ _ _ bN
      have c0 : W.cell? ⟨w.heap.size + 1 + 1, 0, none⟩ = some (.func (.func 78) #[] #[]) := cell_of_row _ _ 0 _ _ _ bK
      have c1 : W.cell? ⟨w.heap.size + 1 + 1, 1, none⟩ = some (.func (.func 79) #[] #[]) := cell_of_row _ _ 1 _ _ _ bK
      have c2 : W.cell? ⟨w.heap.size + 1 + 1, 2, none⟩ = some (.func (.func 80) #[] #[]) := cell_of_row _ _ 2 _ _ _ bK
      have c3 : W.cell? ⟨w.heap.size + 1 + 1, 3, none⟩ = some (.func (.func 81) #[] #[]) := cell_of_row _ _ 3 _ _ _ bK
      have HW := Lib.hid hW
      have KW := Lib.hid kW
      clear bS bN bK hW kW
      go_enter Try.func74, Try.ntmps74
      go_upto_region 2 with fail
      try rw [HW.out]
      go_still_tail 6, (by kernel_rfl)
      change wpList _ _ _ _ _ W.drew
      have kD : Below w.heap.size w W.drew := Below.drew KW.out
      generalize W.drew = W2 at kD ⊢
      clear s0 s1 n0 n1 n2 c0 c1 c2 c3 HW KW
      go_wp2_with fail
      refine (sheetOr_any n bb oo cap m a b 2 acc _ hm (HC.out _ kD) (hz _ kD) hcap (by omega) (by omega) hmm).mono ?_
      rintro e w1 ⟨rfl, hb⟩
      go_wp2
      go_ret
      exact ⟨rfl, kTrans kD hb⟩
    · subst k2
      have e : tabOf n acc ⟨3, a, b⟩ = Go.bits .andNot .u64 (acc.getD a 0) (acc.getD b 0) := rfl
      rw [e]
      clear e
      obtain ⟨W, hW⟩ : ∃ W, ((w.alloc (.cells #[.int .i8 n, .slice (some ⟨bb, oo, none⟩) m cap] 106)).alloc (.cells #[.int .i8 3, .int .i16 a, .int .i16 b] 48)).alloc (.cells #[.func (.func 78) #[] #[], .func (.func 79) #[] #[], .func (.func 80) #[] #[], .func (.func 81) #[] #[]] 121) = W := ⟨_, rfl⟩
      have kW : Below w.heap.size w W := by rw [← hW]; exact kAlloc (kAlloc (kAlloc (Below.refl _ _) _) _) _
      have bS : W.heap[w.heap.size]? = some (.cells #[.int .i8 n, .slice (some ⟨bb, oo, none⟩) m cap] 106 (0, 0)) := by
        rw [← hW]; exact blk_below (nNew _ _) (kAlloc (kAlloc (Below.refl _ _) _) _)
      have bN : W.heap[w.heap.size + 1]? = some (.cells #[.int .i8 3, .int .i16 a, .int .i16 b] 48 (0, 0)) := by
        rw [← hW]
        have h := nNew (w.alloc (.cells #[.int .i8 n, .slice (some ⟨bb, oo, none⟩) m cap] 106)) (.cells #[.int .i8 3, .int .i16 a, .int .i16 b] 48)
        simp only [World.size_alloc] at h
        exact blk_below h (kAlloc (Below.refl _ _) _)
      have bK : W.heap[w.heap.size + 1 + 1]? = some (.cells #[.func (.func 78) #[] #[], .func (.func 79) #[] #[], .func (.func 80) #[] #[], .func (.func 81) #[] #[]] 121 (0, 0)) := by
        rw [← hW]
        have h := nNew ((w.alloc (.cells #[.int .i8 n, .slice (some ⟨bb, oo, none⟩) m cap] 106)).alloc (.cells #[.int .i8 3, .int .i16 a, .int .i16 b] 48)) (.cells #[.func (.func 78) #[] #[], .func (.func 79) #[] #[], .func (.func 80) #[] #[], .func (.func 81) #[] #[]] 121)
        simpa only [World.size_alloc] using h
      have s0 : W.cell? ⟨w.heap.size, 0, none⟩ = some (.int .i8 n) := cell_of_row _ _ 0 _ _ _ bS
      have s1 : W.cell? ⟨w.heap.size, 1, none⟩ = some (.slice (some ⟨bb, oo, none⟩) m cap) := cell_of_row _ _ 1 _ _ _ bS
      have n0 : W.cell? ⟨w.heap.size + 1, 0, none⟩ = some (.int .i8 3) := cell_of_row _ _ 0 _ _ _ bN
      have n1 : W.cell? ⟨w.heap.size + 1, 1, none⟩ = some (.int .i16 a) := cell_of_row _ _ 1 _ _ _ bN
      have n2 : W.cell? ⟨w.heap.size + 1, 2, none⟩ = some (.int .i16 b) := cell_of_row _ _ 2 _ _ _ bN
      have c0 : W.cell? ⟨w.heap.size + 1 + 1, 0, none⟩ = some (.func (.func 78) #[] #[]) := cell_of_row _ _ 0 _ _ _ bK
      have c1 : W.cell? ⟨w.heap.size + 1 + 1, 1, none⟩ = some (.func (.func 79) #[] #[]) := cell_of_row _ _ 1 _ _ _ bK
      have c2 : W.cell? ⟨w.heap.size + 1 + 1, 2, none⟩ = some (.func (.func 80) #[] #[]) := cell_of_row _ _ 2 _ _ _ bK
      have c3 : W.cell? ⟨w.heap.size + 1 + 1, 3, none⟩ = some (.func (.func 81) #[] #[]) := cell_of_row _ _ 3 _ _ _ bK
      have HW := Lib.hid hW
      have KW := Lib.hid kW
      clear bS bN bK hW kW
      go_enter Try.func74, Try.ntmps74
      go_upto_region 2 with fail
      try rw [HW.out]
      go_still_tail 6, (by kernel_rfl)
      change wpList _ _ _ _ _ W.drew
      have kD : Below w.heap.size w W.drew := Below.drew KW.out
      generalize W.drew = W2 at kD ⊢
      clear s0 s1 n0 n1 n2 c0 c1 c2 c3 HW KW
      go_wp2_with fail
      refine (sheetUnless_any n bb oo cap m a b 3 acc _ hm (HC.out _ kD) (hz _ kD) hcap (by omega) (by omega) hmm).mono ?_
      rintro e w1 ⟨rfl, hb⟩
      go_wp2
      go_ret
      exact ⟨rfl, kTrans kD hb⟩
end Go.Proofs.Ytdnjamlibnmpfaa

/- Networks: the tables of all nodes; both sides. -/
namespace Go.Proofs.Ytdnjamlibnmpfaa
open Go.ChangeShapes Go.WideShapes Go.ChangeAt Go.RowKit Go.Joins Go.Deep
set_option linter.unusedVariables false
set_option linter.unusedSimpArgs false

theorem info_u64 : (Try.prog.info? 39).map (fun i => (i.zero, i.size, i.bytes)) = some (some (.int .u64 0), 1, 8) := by kernel_rfl
set_option maxRecDepth 100000 in
set_option maxHeartbeats 4000000 in
theorem putU_any (P n base : Nat) (v : Value) (acc : List Int) (t : Int) (w : World) (hP : w.heap[P]? = some (.cells #[.int .i8 n, v] 106 (0, 0))) (hown : w.ownsRow base 39 1 v acc.length (flatUs acc)) (hPb : P < base) (hbase : base ≤ w.heap.size) (hlen : acc.length ≤ 100) :
    Calls Try.prog 76 #[.pointer (some ⟨P, 1, none⟩), .int .u64 t] w fun e w' => e = .returned (.int .i16 acc.length) ∧
      (∃ v', w'.heap[P]? = some (.cells #[.int .i8 n, v'] 106 (0, 0)) ∧ w'.ownsRow base 39 1 v' (acc ++ [t]).length (flatUs (acc ++ [t]))) ∧ Below P w w' := by
  obtain ⟨i0, hi0, hz0, hzz1, hzz2⟩ := info_parts info_u64
  have Hi := Lib.hid hi0
  have Hz0 := Lib.hid hz0
  have Hz1 := Lib.hid hzz1
  have Hz2 := Lib.hid hzz2
  have hPl := blk_lt hP
  have c1 : w.cell? ⟨P, 1, none⟩ = some v := cell_of_row _ _ 1 _ _ _ hP
  obtain ⟨va, vc, rfl⟩ := owns_slice hown
  have Hown := Lib.hid hown
  have Hblk := Lib.hid (owns_block hown)
  have HP := Lib.hid hP
  obtain ⟨m, hm⟩ : ∃ m, acc.length = m := ⟨_, rfl⟩
  have Hm := Lib.hid hm
  rw [hm] at Hown Hblk c1 HP hlen ⊢
  clear hi0 hz0 hzz1 hzz2 hP hown hm
  go_enter Try.func76, Try.ntmps76
  go_wp2_with (at_builtin; refine wpList_append_own _ rfl _ _ 104 rfl base 39 i0 _ 1 8 Try.underlying104 Hi.out Hz0.out Hz1.out Hz2.out rfl (by decide) (.slice va m vc) m (flatUs acc) rfl (owns_below Hown.out (by repeat (first | with_reducible exact Below.refl _ _ | (with_reducible refine kSet ?_ ?hB _; case hB => (simp; try omega)) | with_reducible refine kAlloc ?_ _ | with_reducible refine Below.drew ?_ | with_reducible refine kDrewN ?_ _ | with_reducible refine kTrans ?_ (by assumption)))) ⟨w.heap.size, 0, none⟩ 1 1 [.int .u64 t] rfl rfl (World.news_of_block (cs := #[.int .u64 t]) (heap_alloc_new _ _)) (by simp [Value.oneCell']) ?qc4 ?qc5 ?qc6 ?_)
  case qc4 => unfold maxLen; omega
  case qc5 => omega
  case qc6 => simp; omega
  intro v6 w6 hown6 hgr hnil
  have hne : (Value.slice va m vc).ownBlock ≠ some P := fun e => by have := (Hblk.out P e).1; omega
  have hP6 : w6.heap[P]? = some (.cells #[.int .i8 n, .slice va m vc] 106 (0, 0)) := (hgr.block P (by simp; omega) (fun e => hne e.symm)).trans (blk_below HP.out (kAlloc (Below.refl _ _) _))
  have f6 : w6.frozen? ⟨P, 1, none⟩ = false := frozen_of_row _ _ 1 _ _ hP6
  have d6 : w6.cell? ⟨P, 1, none⟩ = some (.slice va m vc) := cell_of_row _ _ 1 _ _ _ hP6
  have hl6 := blk_lt hP6
  have Hown6 := Lib.hid (show w6.ownsRow base 39 1 v6 (acc ++ [t]).length (flatUs (acc ++ [t])) by rw [flatUs_end, List.length_append, Hm.out]; exact hown6)
  have B6 : Below P w w6 := (((kAlloc (Below.refl w.heap.size w) _).mono (Nat.le_of_lt hPl)).grown hgr (by simp; omega) (fun k hk => by have := (Hblk.out k hk).1; omega))
  obtain ⟨ua, uc, rfl⟩ := owns_slice Hown6.out
  have HP6 := Lib.hid hP6
  have hm16 : IntKind.i16.wrap (m : Int) = m := IntWalk.i16_in _ (by omega)
  have hal : (acc ++ [t]).length = m + 1 := by rw [List.length_append, Hm.out]; rfl
  have Hal := Lib.hid hal
  rw [hal] at Hown6 ⊢
  clear hown6 hgr hnil hP6 c1 Hown hal
  go_wp2
  go_ret
  refine ⟨rfl, ⟨_, nBlk_set HP6.out, ?_⟩, ?_⟩
  · rw [Hal.out]
    exact owns_set_far (t := 106) Hown6.out HP6.out (by decide) 1 _
  · exact B6.setCell (Nat.le_refl _) _
end Go.Proofs.Ytdnjamlibnmpfaa

/- Networks: the tables of all nodes; the model. -/
namespace Go.Proofs.Ytdnjamlibnmpfaa
open Go.ChangeShapes Go.WideShapes Go.ChangeAt Go.RowKit Go.Joins Go.Deep
set_option linter.unusedVariables false
set_option linter.unusedSimpArgs false

set_option maxRecDepth 100000 in
set_option maxHeartbeats 16000000 in
theorem l04Tables_anyC (n bb b k cb ck : Nat) (l : List Nd) (p : List Int) (w : World) (h0 : NwAt w bb n (.slice (some ⟨b, 0, none⟩) l.length cb) (.slice (some ⟨k, 0, none⟩) p.length ck)) (h : NK w b k l p) (hok : netOk n l p = true) :
    Calls Try.prog 70 #[.pointer (some ⟨bb, 0, none⟩)] w fun e w' => ∃ v, e = .returned v ∧ SlWUs w.heap.size w'.heap.size w' (tabsL n l []) v ∧ Below w.heap.size w w' := by
  have hn : 1 ≤ n ∧ n ≤ 6 := by have := (netOk_parts hok).1; omega
  have hl80 := (netOk_parts hok).2.1.2
  have hwn : IntKind.i64.wrap (n : Int) = n := IntWalk.i64_in _ (by omega)
  obtain ⟨i0, hi0, hz0, hzz1, hzz2⟩ := info_parts info_u64
  have Hi := Lib.hid hi0
  have Hz0 := Lib.hid hz0
  have Hz1 := Lib.hid hzz1
  have Hz2 := Lib.hid hzz2
  have HN := Lib.hid (fun i (hi : i < l.length) => netOk_node hok i hi)
  have HK := Lib.hid (fun W (hW : Below w.heap.size w W) => h.below hW)
  have lbb := h0.lt
  have HX := Lib.hid (fun W (hW : Below w.heap.size w W) => h0.below hW lbb)
  have zb := h.z0
  obtain ⟨x0, x1, x2⟩ := h0
  obtain ⟨N, hN⟩ : ∃ N, l.length = N := ⟨_, rfl⟩
  have Hn := Lib.hid hN
  obtain ⟨T, hT⟩ : ∃ T, tabsL n l [] = T := ⟨_, rfl⟩
  have HT : Hid (tabsL n (l.drop 0) [] = T) := Lib.hid hT
  rw [hN] at hl80 HX x1
  rw [hT]
  have own0 : Hid ((w.alloc (.cells #[] 39)).ownsRow w.heap.size 39 1 (.slice (some ⟨w.heap.size, 0, none⟩) 0 0) ([] : List Int).length (flatUs [])) := Lib.hid (owns_new (Nat.le_refl _) (heap_alloc_new _ _))
  have hk0 : Below w.heap.size w (w.alloc (.cells #[] 39)) := by repeat (first | with_reducible exact Below.refl _ _ | (with_reducible refine kSet ?_ ?hB _; case hB => (simp; try omega)) | with_reducible refine kAlloc ?_ _ | with_reducible refine Below.drew ?_ | with_reducible refine kDrewN ?_ _ | with_reducible refine kTrans ?_ (by assumption))
  clear h hok hN hT hi0 hz0 hzz1 hzz2
  go_enter Try.func70, Try.ntmps70
  go_wp2_with fail
  refine (l04Full_any n _ hn).mono ?_
  rintro e w1 ⟨rfl, rfl⟩
  go_wp2
  clear x0 x1 x2
  go_loopw [4, 5, 6, 7] (fun out i _ _ wr => ∃ (j : Nat) (acc : List Int), j ≤ N ∧ i = .int .i64 j ∧ acc.length = j ∧ Hid (tabsL n (l.drop j) acc = T) ∧ Hid (wr.ownsRow w.heap.size 39 1 out acc.length (flatUs acc)) ∧ Below w.heap.size w wr) (fun _ i _ _ _ => N - (intOf i).toNat)
  case atStart => exact ⟨0, [], by omega, rfl, rfl, HT, own0, hk0⟩
  case round =>
    clear HT own0 hk0
    obtain ⟨_, acc, hj, rfl, rfl, hf, hown, hbr⟩ := hrel
    have Hacc : Hid (acc.length = acc.length) := Lib.hid rfl
    obtain ⟨va, vc, rfl⟩ := owns_slice hown.out
    obtain ⟨x0, x1, x2⟩ := id (HX.out wr hbr)
    have hlb := Nat.lt_of_lt_of_le lbb hbr.size
    by_cases hlt : acc.length < N
    · have hlk : acc.length < l.length := by rw [Hn.out]; exact hlt
      have hpa := (HK.out wr hbr).p0 acc.length hlk
      have hzb := Nat.lt_of_lt_of_le zb hbr.size
      have hd : l.drop acc.length = l[acc.length] :: l.drop (acc.length + 1) := List.drop_eq_getElem_cons hlk
      have hno := HN.out acc.length hlk
      generalize l[acc.length] = x at hpa hd hno
      obtain ⟨xk, xa, xb⟩ := x
      obtain ⟨a0, a1, a2⟩ := hpa
      simp only [Nat.zero_add] at a0 a1 a2
      have hq2 := hf.out
      rw [hd] at hq2
      have hF : Hid (tabsL n (l.drop (acc.length + 1)) (acc ++ [tabOf n acc ⟨xk, xa, xb⟩]) = T) := Lib.hid hq2
      obtain ⟨W, hW⟩ : ∃ W, wr.alloc (.cells #[.int .i8 xk, .int .i16 xa, .int .i16 xb] 48) = W := ⟨_, rfl⟩
      have kW : Below wr.heap.size wr W := by rw [← hW]; exact kAlloc (Below.refl _ _) _
      have bN : W.heap[wr.heap.size]? = some (.cells #[.int .i8 xk, .int .i16 xa, .int .i16 xb] 48 (0, 0)) := by rw [← hW]; exact nNew _ _
      have n0 : W.cell? ⟨wr.heap.size, 0, none⟩ = some (.int .i8 xk) := cell_of_row _ _ 0 _ _ _ bN
      have n1 : W.cell? ⟨wr.heap.size, 1, none⟩ = some (.int .i16 xa) := cell_of_row _ _ 1 _ _ _ bN
      have n2 : W.cell? ⟨wr.heap.size, 2, none⟩ = some (.int .i16 xb) := cell_of_row _ _ 2 _ _ _ bN
      obtain ⟨y0, y1, y2⟩ := id (HX.out W (kTrans hbr kW))
      have HW := Lib.hid hW
      have hbW := kTrans hbr kW
      have hownW := Lib.hid (owns_below hown.out kW)
      have hzW := kW.size
      rcases nodeOk_cases hno with ⟨k0, hA, hB⟩ | ⟨k1, hA, hB⟩ | ⟨k2, hA, hB⟩
      · simp only at k0 hA hB
        obtain ⟨a, rfl⟩ : ∃ a : Nat, xa = a := ⟨xa.toNat, by omega⟩
        subst k0 hB
        have e : tabOf n acc ⟨0, a, 0⟩ = inT a (2 ^ n) := by unfold tabOf; rw [if_pos rfl]; rfl
        rw [e] at hF
        have hwa : IntKind.i64.wrap (a : Int) = a := IntWalk.i64_in _ (by omega)
        clear e hq2 hd hf hno hW bN kW hown
        go_upto_region 7 with fail
        try rw [HW.out]
        go_wp2
        go_still_tail 8, (by kernel_rfl)
        change wpList _ _ _ _ _ W.drew
        have kD : Below W.heap.size W W.drew := Below.drew (Below.refl _ _)
        generalize W.drew = W2 at kD ⊢
        have T2w := kTrans hbW kD
        have hown2 := Lib.hid (owns_below hownW.out kD)
        have Hblk := Lib.hid (owns_block hown2.out)
        clear n0 n1 n2 y0 y1 y2 x0 x1 x2 hownW HW
        go_wp2_with fail
        refine (l04Input_any n a _ hn (by omega)).mono ?_
        rintro e w3 ⟨rfl, rfl⟩
        go_wp2_with (at_builtin; refine wpList_append_own _ rfl _ _ 101 rfl w.heap.size 39 i0 _ 1 8 Try.underlying101 Hi.out Hz0.out Hz1.out Hz2.out rfl (by decide) (.slice va acc.length vc) acc.length (flatUs acc) rfl (owns_below hown2.out (by repeat (first | with_reducible exact Below.refl _ _ | (with_reducible refine kSet ?_ ?hB _; case hB => (simp; try omega)) | with_reducible refine kAlloc ?_ _ | with_reducible refine Below.drew ?_ | with_reducible refine kDrewN ?_ _ | with_reducible refine kTrans ?_ (by assumption)))) ⟨W2.heap.size, 0, none⟩ 1 1 [.int .u64 (inT a (2 ^ n))] rfl rfl (World.news_of_block (cs := #[.int .u64 (inT a (2 ^ n))]) (heap_alloc_new _ _)) (by simp [Value.oneCell']) ?qc4 ?qc5 ?qc6 ?_)
        case qc4 => have := Hacc.out; unfold maxLen; omega
        case qc5 => have := Hacc.out; omega
        case qc6 => have := T2w.size; simp; omega
        intro v6 w6 hown6 hgr hnil
        have Hown6 := Lib.hid (show w6.ownsRow w.heap.size 39 1 v6 (acc ++ [(inT a (2 ^ n))]).length (flatUs (acc ++ [(inT a (2 ^ n))])) by rw [flatUs_end, List.length_append]; exact hown6)
        have T6 : Below w.heap.size w w6 := grown_below (v := (.slice va acc.length vc)) (by repeat (first | with_reducible exact Below.refl _ _ | (with_reducible refine kSet ?_ ?hB _; case hB => (simp; try omega)) | with_reducible refine kAlloc ?_ _ | with_reducible refine Below.drew ?_ | with_reducible refine kDrewN ?_ _ | with_reducible refine kTrans ?_ (by assumption))) hgr (by intro q hq; exact (Hblk.out q hq).1)
        have ha6 : (acc ++ [(inT a (2 ^ n))]).length = acc.length + 1 := by rw [List.length_append]; rfl
        clear hown6 hgr hnil
        go_wp2
        exact ⟨⟨acc.length + 1, _, by omega, by go_num, ha6, hF, Hown6, T6⟩, by simp [intOf]; omega⟩
      · skip
        simp only at k1 hA hB
        subst k1 hA hB
        have e : tabOf n acc ⟨1, 0, 0⟩ = fullT n := rfl
        rw [e] at hF
        clear e hq2 hd hf hno hW bN kW hown
        go_upto_region 7 with fail
        try rw [HW.out]
        have T2w := hbW
        have hown2 := hownW
        have Hblk := Lib.hid (owns_block hown2.out)
        obtain ⟨W2, rfl⟩ : ∃ W2 : World, W2 = W := ⟨_, rfl⟩
        go_wp2_with (at_builtin; refine wpList_append_own _ rfl _ _ 101 rfl w.heap.size 39 i0 _ 1 8 Try.underlying101 Hi.out Hz0.out Hz1.out Hz2.out rfl (by decide) (.slice va acc.length vc) acc.length (flatUs acc) rfl (owns_below hown2.out (by repeat (first | with_reducible exact Below.refl _ _ | (with_reducible refine kSet ?_ ?hB _; case hB => (simp; try omega)) | with_reducible refine kAlloc ?_ _ | with_reducible refine Below.drew ?_ | with_reducible refine kDrewN ?_ _ | with_reducible refine kTrans ?_ (by assumption)))) ⟨W2.heap.size, 0, none⟩ 1 1 [.int .u64 (fullT n)] rfl rfl (World.news_of_block (cs := #[.int .u64 (fullT n)]) (heap_alloc_new _ _)) (by simp [Value.oneCell']) ?qc4 ?qc5 ?qc6 ?_)
        case qc4 => have := Hacc.out; unfold maxLen; omega
        case qc5 => have := Hacc.out; omega
        case qc6 => have := T2w.size; simp; omega
        intro v6 w6 hown6 hgr hnil
        have Hown6 := Lib.hid (show w6.ownsRow w.heap.size 39 1 v6 (acc ++ [(fullT n)]).length (flatUs (acc ++ [(fullT n)])) by rw [flatUs_end, List.length_append]; exact hown6)
        have T6 : Below w.heap.size w w6 := grown_below (v := (.slice va acc.length vc)) (by repeat (first | with_reducible exact Below.refl _ _ | (with_reducible refine kSet ?_ ?hB _; case hB => (simp; try omega)) | with_reducible refine kAlloc ?_ _ | with_reducible refine Below.drew ?_ | with_reducible refine kDrewN ?_ _ | with_reducible refine kTrans ?_ (by assumption))) hgr (by intro q hq; exact (Hblk.out q hq).1)
        have ha6 : (acc ++ [(fullT n)]).length = acc.length + 1 := by rw [List.length_append]; rfl
        clear hown6 hgr hnil
        go_wp2
        exact ⟨⟨acc.length + 1, _, by omega, by go_num, ha6, hF, Hown6, T6⟩, by simp [intOf]; omega⟩
      · skip
        simp only at k2 hA hB
        obtain ⟨a, rfl⟩ : ∃ a : Nat, xa = a := ⟨xa.toNat, by omega⟩
        obtain ⟨b', rfl⟩ : ∃ b' : Nat, xb = b' := ⟨xb.toNat, by omega⟩
        have hs2 : ∃ bb' oo, va = some ⟨bb', oo, none⟩ ∧ UssAt wr bb' oo acc ∧ bb' < wr.heap.size ∧ acc.length ≤ vc := by
          have hs := slUs_of_owns hown.out
          generalize hv : Value.slice va acc.length vc = v at hs
          cases hs with
          | empty _ _ h => rw [h] at hA; simp at hA; omega
          | mk bb' oo cc h1 h2 h3 =>
            cases hv
            exact ⟨bb', oo, rfl, h1, h2, h3⟩
        obtain ⟨g, oo, rfl, hc, hbb, hcap⟩ := hs2
        have ka' : a < acc.length := by omega
        have kb' : b' < acc.length := by omega
        have hcW := hc.below kW hbb
        have c1 := hcW a ka'
        have c2 := hcW b' kb'
        rw [← getD_at ka'] at c1
        rw [← getD_at kb'] at c2
        obtain ⟨xx, hxx⟩ : ∃ xx, acc.getD a 0 = xx := ⟨_, rfl⟩
        obtain ⟨yy, hyy⟩ : ∃ yy, acc.getD b' 0 = yy := ⟨_, rfl⟩
        rw [hxx] at c1
        rw [hyy] at c2
        have Hxx := Lib.hid hxx
        have Hyy := Lib.hid hyy
        clear hxx hyy
        have hgW := Nat.lt_of_lt_of_le hbb kW.size
        clear hc hcW
        rcases k2 with k2 | k2
        · subst k2
          have e : tabOf n acc ⟨2, a, b'⟩ = Go.bits .or .u64 (acc.getD a 0) (acc.getD b' 0) := rfl
          rw [e, Hxx.out, Hyy.out] at hF
          clear e hq2 hd hf hno hW bN kW hown
          go_upto_region 7 with fail
          try rw [HW.out]
          go_wp2
          go_quiet (fail)
          have kD : Below W.heap.size W (W.drewN nq) := kDrewN (Below.refl _ _) _
          generalize (W.drewN nq) = W2 at kD ⊢
          have T2w := kTrans hbW kD
          have hown2 := Lib.hid (owns_below hownW.out kD)
          have Hblk := Lib.hid (owns_block hown2.out)

          clear n0 n1 n2 y0 y1 y2 x0 x1 x2 hownW HW c1 c2
          go_wp2_with (at_builtin; refine wpList_append_own _ rfl _ _ 101 rfl w.heap.size 39 i0 _ 1 8 Try.underlying101 Hi.out Hz0.out Hz1.out Hz2.out rfl (by decide) (.slice (some ⟨g, oo, none⟩) acc.length vc) acc.length (flatUs acc) rfl (owns_below hown2.out (by repeat (first | with_reducible exact Below.refl _ _ | (with_reducible refine kSet ?_ ?hB _; case hB => (simp; try omega)) | with_reducible refine kAlloc ?_ _ | with_reducible refine Below.drew ?_ | with_reducible refine kDrewN ?_ _ | with_reducible refine kTrans ?_ (by assumption)))) ⟨W2.heap.size, 0, none⟩ 1 1 [.int .u64 (Go.bits .or .u64 xx yy)] rfl rfl (World.news_of_block (cs := #[.int .u64 (Go.bits .or .u64 xx yy)]) (heap_alloc_new _ _)) (by simp [Value.oneCell']) ?qc4 ?qc5 ?qc6 ?_)
          case qc4 => have := Hacc.out; unfold maxLen; omega
          case qc5 => have := Hacc.out; omega
          case qc6 => have := T2w.size; simp; omega
          intro v6 w6 hown6 hgr hnil
          have Hown6 := Lib.hid (show w6.ownsRow w.heap.size 39 1 v6 (acc ++ [(Go.bits .or .u64 xx yy)]).length (flatUs (acc ++ [(Go.bits .or .u64 xx yy)])) by rw [flatUs_end, List.length_append]; exact hown6)
          have T6 : Below w.heap.size w w6 := grown_below (v := (.slice (some ⟨g, oo, none⟩) acc.length vc)) (by repeat (first | with_reducible exact Below.refl _ _ | (with_reducible refine kSet ?_ ?hB _; case hB => (simp; try omega)) | with_reducible refine kAlloc ?_ _ | with_reducible refine Below.drew ?_ | with_reducible refine kDrewN ?_ _ | with_reducible refine kTrans ?_ (by assumption))) hgr (by intro q hq; exact (Hblk.out q hq).1)
          have ha6 : (acc ++ [(Go.bits .or .u64 xx yy)]).length = acc.length + 1 := by rw [List.length_append]; rfl
          clear hown6 hgr hnil
          go_wp2
          exact ⟨⟨acc.length + 1, _, by omega, by go_num, ha6, hF, Hown6, T6⟩, by simp [intOf]; omega⟩
        · subst k2
          have e : tabOf n acc ⟨3, a, b'⟩ = Go.bits .andNot .u64 (acc.getD a 0) (acc.getD b' 0) := rfl
          rw [e, Hxx.out, Hyy.out] at hF
          clear e hq2 hd hf hno hW bN kW hown
          go_upto_region 7 with fail
          try rw [HW.out]
          go_wp2
          go_quiet (fail)
          have kD : Below W.heap.size W (W.drewN nq) := kDrewN (Below.refl _ _) _
          generalize (W.drewN nq) = W2 at kD ⊢
          have T2w := kTrans hbW kD
          have hown2 := Lib.hid (owns_below hownW.out kD)
          have Hblk := Lib.hid (owns_block hown2.out)

          clear n0 n1 n2 y0 y1 y2 x0 x1 x2 hownW HW c1 c2
          go_wp2_with (at_builtin; refine wpList_append_own _ rfl _ _ 101 rfl w.heap.size 39 i0 _ 1 8 Try.underlying101 Hi.out Hz0.out Hz1.out Hz2.out rfl (by decide) (.slice (some ⟨g, oo, none⟩) acc.length vc) acc.length (flatUs acc) rfl (owns_below hown2.out (by repeat (first | with_reducible exact Below.refl _ _ | (with_reducible refine kSet ?_ ?hB _; case hB => (simp; try omega)) | with_reducible refine kAlloc ?_ _ | with_reducible refine Below.drew ?_ | with_reducible refine kDrewN ?_ _ | with_reducible refine kTrans ?_ (by assumption)))) ⟨W2.heap.size, 0, none⟩ 1 1 [.int .u64 (Go.bits .andNot .u64 xx yy)] rfl rfl (World.news_of_block (cs := #[.int .u64 (Go.bits .andNot .u64 xx yy)]) (heap_alloc_new _ _)) (by simp [Value.oneCell']) ?qc4 ?qc5 ?qc6 ?_)
          case qc4 => have := Hacc.out; unfold maxLen; omega
          case qc5 => have := Hacc.out; omega
          case qc6 => have := T2w.size; simp; omega
          intro v6 w6 hown6 hgr hnil
          have Hown6 := Lib.hid (show w6.ownsRow w.heap.size 39 1 v6 (acc ++ [(Go.bits .andNot .u64 xx yy)]).length (flatUs (acc ++ [(Go.bits .andNot .u64 xx yy)])) by rw [flatUs_end, List.length_append]; exact hown6)
          have T6 : Below w.heap.size w w6 := grown_below (v := (.slice (some ⟨g, oo, none⟩) acc.length vc)) (by repeat (first | with_reducible exact Below.refl _ _ | (with_reducible refine kSet ?_ ?hB _; case hB => (simp; try omega)) | with_reducible refine kAlloc ?_ _ | with_reducible refine Below.drew ?_ | with_reducible refine kDrewN ?_ _ | with_reducible refine kTrans ?_ (by assumption))) hgr (by intro q hq; exact (Hblk.out q hq).1)
          have ha6 : (acc ++ [(Go.bits .andNot .u64 xx yy)]).length = acc.length + 1 := by rw [List.length_append]; rfl
          clear hown6 hgr hnil
          go_wp2
          exact ⟨⟨acc.length + 1, _, by omega, by go_num, ha6, hF, Hown6, T6⟩, by simp [intOf]; omega⟩

    · obtain rfl : N = acc.length := by omega
      have hTa : acc = T := by rw [← hf.out, List.drop_of_length_le (by rw [Hn.out]; omega)]; rfl
      subst hTa
      have HW := Lib.hid (SlWUs.of_owns hown.out)
      clear hf hown
      go_wp2
      go_ret
      exact ⟨_, rfl, HW.out, hbr⟩
theorem l04Tables_any (n bb b k : Nat) (l : List Nd) (p : List Int) (w : World) (h0 : NwAt w bb n (.slice (some ⟨b, 0, none⟩) l.length l.length) (.slice (some ⟨k, 0, none⟩) p.length p.length)) (h : NK w b k l p) (hok : netOk n l p = true) :
    Calls Try.prog 70 #[.pointer (some ⟨bb, 0, none⟩)] w fun e w' => ∃ v, e = .returned v ∧ SlWUs w.heap.size w'.heap.size w' (tabsL n l []) v ∧ Below w.heap.size w w' :=
  l04Tables_anyC n bb b k l.length p.length l p w h0 h hok
end Go.Proofs.Ytdnjamlibnmpfaa

/- TablesOf: both sides. -/
namespace Go.Proofs.Ytdnjamlibnmpfaa
open Go.ChangeShapes Go.WideShapes Go.ChangeAt Go.RowKit Go.Joins Go.Deep
set_option linter.unusedVariables false
set_option linter.unusedSimpArgs false

theorem SlWUs.form2 {lo hi : Nat} {w : World} {l : List Int} {v : Value} (h : SlWUs lo hi w l v) : ∃ a c, v = .slice a l.length c := h.form
def UsPostN (L : List Int) (C : Int) (w : World) (e : Ending) (w' : World) : Prop := ∃ v, e = .returned (.tuple #[v, .int .i64 C]) ∧ SlWUs w.heap.size w'.heap.size w' L v ∧ Below w.heap.size w w'
def tabQ (R : Bool) (n : Nat) (l : List Nd) : List Int × Int := if R = true then (tabsL n l [], 0) else ([], 1)
theorem pair_liN {a c : List Int} {b d : Int} (h : (a, b) = (c, d)) : a = c ∧ b = d := by injection h with h1 h2; exact ⟨h1, h2⟩
theorem tabQ_ok {R : Bool} {ni : Int} {l : List Nd} {p : List Int} {L : List Int} {C : Int} (hR : R = netOk ni l p) (h : tabQ R ni.toNat l = (L, C)) : UssWf L ∧ L.length ≤ 1048576 := by
  cases R with
  | false => simp only [tabQ] at h; cases h; exact ⟨fun x hx => by simp at hx, by simp⟩
  | true =>
    have hp := netOk_parts hR.symm
    rw [← (pair_liN (show (tabsL ni.toNat l [], (0 : Int)) = (L, C) from h)).1]
    exact ⟨tabsL_wf _ _ _ (fun x hx => by simp at hx), by rw [tabsL_length]; simp; omega⟩
end Go.Proofs.Ytdnjamlibnmpfaa
