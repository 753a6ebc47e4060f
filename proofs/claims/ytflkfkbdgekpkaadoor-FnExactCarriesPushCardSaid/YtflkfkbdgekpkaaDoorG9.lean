/- Several texts in one: Hr, Qa, Qb, Qi, Qj, Qk. -/
import Derived.Test.YtflkfkbdgekpkaaDoorG8
import Derived.Test.YtflkfkbdgekpkaaDoorG4
import Derived.Laws.CopyRow
import Derived.Deep.AppendSrc
import Derived.Lib.AppendZerosOnto
import Derived.StillTailTactics
import Derived.Test.YtflkfkbdgekpkaaDoorG2
import Derived.Shelf.Spec.SlicesInsert
import Derived.Lib.Overlaps
import Derived.Laws.Externs
import Derived.Deep.RegionLaw
import Derived.Outline
/- Hits in a row: cells, and what copies and appends of records of four cells make of a row, told by the whole block. -/
namespace Go.Proofs.YtflkfkbdgekpkaaDoor
open Go.ChangeShapes Go.WideShapes Go.ChangeAt Go.RowKit
set_option linter.unusedVariables false

abbrev Ht := Nat × Fl
def htCells (h : Ht) : List Value := [.int .i64 h.1, .int .i64 h.2.tick, .int .i8 h.2.frm, .int .i64 h.2.who]
def flatH (l : List Ht) : List Value := l.flatMap htCells
theorem flatH_length (l : List Ht) : (flatH l).length = l.length * 4 := by
  induction l with
  | nil => rfl
  | cons p l ih => simp only [flatH, List.flatMap_cons, List.length_append, List.length_cons] at *; rw [ih]; simp only [htCells, List.length_cons, List.length_nil]; omega
theorem flatH_append (l r : List Ht) : flatH (l ++ r) = flatH l ++ flatH r := by simp [flatH]
theorem flatH_cons (h : Ht) (l : List Ht) : flatH (h :: l) = htCells h ++ flatH l := by simp [flatH]
theorem flatH_one (l : List Ht) : ∀ u ∈ flatH l, u.oneCell' = true := by
  intro u hu
  obtain ⟨p, _, hp⟩ := List.mem_flatMap.1 hu
  simp only [htCells, List.mem_cons, List.not_mem_nil, or_false] at hp
  rcases hp with rfl | rfl | rfl | rfl <;> rfl
theorem htCells_one (h : Ht) : ∀ u ∈ htCells h, u.oneCell' = true := by
  intro u hp
  simp only [htCells, List.mem_cons, List.not_mem_nil, or_false] at hp
  rcases hp with rfl | rfl | rfl | rfl <;> rfl
theorem flatH_get : ∀ (l : List Ht) (i j : Nat) (h : i < l.length), j < 4 → (flatH l)[i * 4 + j]? = (htCells l[i])[j]?
  | p :: l, 0, j, _, hj => by
    rw [flatH_cons, List.getElem?_append_left (by simp [htCells]; omega)]; simp
  | p :: l, i + 1, j, h, hj => by
    rw [flatH_cons, List.getElem?_append_right (by simp [htCells]; omega)]
    have := flatH_get l i j (by simpa using h) hj
    rw [show (i + 1) * 4 + j - (htCells p).length = i * 4 + j by simp [htCells]; omega, this]
    rfl

/-- a segment of a list is written over -/
theorem seg_write {α : Type} {L X Y Z vs : List α} {k : Nat} (h : L = X ++ Y ++ Z) (hk : X.length = k) (hy : Y.length = vs.length) : L.take k ++ vs ++ L.drop (k + vs.length) = X ++ vs ++ Z := by
  subst h hk
  rw [List.append_assoc X Y Z, List.take_left' rfl, ← hy, ← List.append_assoc X Y Z, ← List.length_append, List.drop_left' rfl]
theorem run_copy_rowK {P : Program} (w : World) (k : Nat) (dT sT ty elem : TypeId) (g o dLen dCap : Nat) (a : Addr) (sLen sCap : Nat) (cur : Array Value) (t : TypeId) (cs : List Value)
    (hu : P.underlying dT = some (.slice elem)) (hs : (P.info? elem).map (·.size) = some k)
    (hg : w.heap[g]? = some (.cells cur t (0, 0))) (hn : cs.length = Nat.min sLen dLen * k)
    (hsrc : ∀ j v, cs[j]? = some v → w.cell? (a.add j) = some v) (hfit : o + cs.length ≤ cur.size) (h1 : ∀ v ∈ cs, v.oneCell' = true) :
    (Builtin.copy_ #[dT, sT] ty #[.slice (some ⟨g, o, none⟩) dLen dCap, .slice (some a) sLen sCap]).run P w =
      .ok (goInt (Nat.min sLen dLen)) (w.setRow g (cur.toList.take o ++ cs ++ cur.toList.drop (o + cs.length)).toArray) := by
  have hl := run_loadCells_list (P := P) w a cs hsrc
  have hst := run_storeCells_at P g o t cs 0 cur w hg (by simpa using hfit) h1
  cases hq : P.info? elem with
  | none => simp [hq] at hs
  | some i =>
    have hi : i.size = k := by simpa [hq] using hs
    simp [Builtin.copy_, run_underlying hu, Builtin.lenOf, Builtin.firstCells, sizeOf, typeInfo, hq, hi, ← hn, hl, hst]
/-- an append in place, told by the whole block -/
theorem run_append_room_row {P : Program} (w : World) (t tx ty e : TypeId) (i : TypeInfo) (ht : P.underlying t = some (.slice e)) (hi : P.info? e = some i) (g off sLen sCap : Nat) (x : Value) (n : Nat) (news : List Value) (hs : Src P i.size tx x n news w)
    (hroom : sLen + n ≤ sCap) (cur : Array Value) (T : TypeId) (hg : w.heap[g]? = some (.cells cur T (0, 0))) (hfit : off + sLen * i.size + news.length ≤ cur.size) :
    (Builtin.append_ #[t, tx] ty #[.slice (some ⟨g, off, none⟩) sLen sCap, x]).run P w = .ok (.slice (some ⟨g, off, none⟩) (sLen + n) sCap) (w.setRow g (cur.toList.take (off + sLen * i.size) ++ news ++ cur.toList.drop (off + sLen * i.size + news.length)).toArray) := by
  have hst := run_storeCells_at P g (off + sLen * i.size) T news 0 cur w hg (by simpa using hfit) hs.one
  simp only [Nat.add_zero] at hst
  rcases hs.kind with ⟨e', hk⟩ | hk <;> simp [Builtin.append_, run_underlying ht, run_underlying hk, sizeOf, typeInfo, hi, hs.len, hroom, hs.cells, Addr.add_lit, hst]

/-- the block of a slice into which there is room to write -/
def ownR : Value → Option Nat
  | .slice (some a) _ c => if c = 0 then none else some a.block
  | _ => none
theorem ownR_some {g o n c : Nat} (h : 0 < c) : ownR (.slice (some ⟨g, o, none⟩) n c) = some g := by simp only [ownR]; rw [if_neg (by omega)]
theorem ownR_zero (a : Option Addr) (n : Nat) : ownR (.slice a n 0) = none := by cases a <;> simp [ownR]
/-- the row g holds the hits Q from the o-th record on; there is room for c -/
def QRow (T : TypeId) (w : World) (g o c : Nat) (Q : List Ht) : Prop :=
  ∃ A C : List Value, w.heap[g]? = some (.cells (A ++ flatH Q ++ C).toArray T (0, 0)) ∧ A.length = o * 4 ∧ C.length + Q.length * 4 = c * 4
/-- a slice of hits, whose row lies from 'base' on -/
def QAt (T : TypeId) (w : World) (base : Nat) (v : Value) (Q : List Ht) : Prop :=
  (Q = [] ∧ ∃ a, v = .slice a 0 0) ∨ ∃ g o c, v = .slice (some ⟨g, o * 4, none⟩) Q.length c ∧ base ≤ g ∧ 0 < c ∧ c ≤ 9223372036854775807 ∧ QRow T w g o c Q
theorem QRow.lt {T : TypeId} {w : World} {g o c : Nat} {Q : List Ht} (h : QRow T w g o c Q) : g < w.heap.size := by
  obtain ⟨A, C, h, _⟩ := h
  exact blk_lt h
theorem QRow.of_block {T : TypeId} {w w' : World} {g o c : Nat} {Q : List Ht} (h : QRow T w g o c Q) (e : w'.heap[g]? = w.heap[g]?) : QRow T w' g o c Q := by
  obtain ⟨A, C, h1, h2⟩ := h
  exact ⟨A, C, e.trans h1, h2⟩
theorem QAt.kept {T : TypeId} {w w' : World} {base : Nat} {v : Value} {Q : List Ht} {row : Option Nat} (h : QAt T w base v Q) (hg : w.grownBy w' row) (hne : ownR v = none ∨ ownR v ≠ row) : QAt T w' base v Q := by
  rcases h with h | ⟨g, o, c, rfl, hb, h0, hc, hr⟩
  · exact .inl h
  · exact .inr ⟨g, o, c, rfl, hb, h0, hc, hr.of_block (hg.block g hr.lt (by rw [ownR_some h0] at hne; simpa using hne))⟩
theorem QAt.below {T : TypeId} {w w' : World} {base : Nat} {v : Value} {Q : List Ht} (h : QAt T w base v Q) (hb : Below w.heap.size w w') : QAt T w' base v Q := by
  rcases h with h | ⟨g, o, c, rfl, hb', h0, hc, hr⟩
  · exact .inl h
  · exact .inr ⟨g, o, c, rfl, hb', h0, hc, hr.of_block (hb.block g hr.lt)⟩
/-- the cells of the j-th hit -/
theorem QRow.cell {T : TypeId} {w : World} {g o c : Nat} {Q : List Ht} (h : QRow T w g o c Q) {j i : Nat} (hj : j < Q.length) (hi : i < 4) : w.cell? ⟨g, (o + j) * 4 + i, none⟩ = (htCells Q[j])[i]? := by
  obtain ⟨A, C, h1, h2, h3⟩ := h
  rw [cell_of_row w g _ _ _ _ h1, List.getElem?_toArray, List.append_assoc, List.getElem?_append_right (by omega), List.getElem?_append_left (by rw [flatH_length]; omega), h2, show (o + j) * 4 + i - o * 4 = j * 4 + i by omega, flatH_get Q j i hj hi]
end Go.Proofs.YtflkfkbdgekpkaaDoor

/- The order of hits: cmp.Compare, cmp.Or and the program's compareHits. -/
namespace Go.Proofs.YtflkfkbdgekpkaaDoor
open Go.ChangeShapes Go.WideShapes Go.ChangeAt Go.RowKit
set_option linter.unusedVariables false

def cmpI (a b : Int) : Int := if a < b then -1 else if b < a then 1 else 0
def orI (a b c : Int) : Int := if a ≠ 0 then a else if b ≠ 0 then b else c
def cmpH (f g : Fl) : Int := orI (cmpI f.tick g.tick) (cmpI f.frm g.frm) (cmpI f.who g.who)
theorem cmpH_neg (f g : Fl) : cmpH f g < 0 ↔ lessF f g := by
  unfold cmpH orI cmpI lessF
  constructor
  · intro h
    repeat' split at h
    all_goals omega
  · intro h
    repeat' split
    all_goals omega
theorem cmpI_bd (a b : Int) : -1 ≤ cmpI a b ∧ cmpI a b ≤ 1 := by unfold cmpI; repeat' split <;> omega
theorem isNaN64_any (x : Int) (w : World) : Calls Tryd.prog 108 #[.int .i64 x] w fun e w' => e = .returned (.bool false) ∧ w' = w := by
  go_enter Tryd.func108, Tryd.ntmps108
  go_wp2
  go_ret
  exact ⟨rfl, rfl⟩
theorem compare64_any (x y c : Int) (w : World) (hc : cmpI x y = c) : Calls Tryd.prog 101 #[.int .i64 x, .int .i64 y] w fun e w' => e = .returned (.int .i64 c) ∧ w' = w := by
  unfold cmpI at hc
  by_cases h1 : x < y
  · rw [if_pos h1] at hc
    subst hc
    go_enter Tryd.func101, Tryd.ntmps101
    go_wp2_with (refine (isNaN64_any _ _).mono ?_; rintro e w' ⟨rfl, rfl⟩)
    go_ret
    exact ⟨rfl, rfl⟩
  · rw [if_neg h1] at hc
    by_cases h2 : y < x
    · rw [if_pos h2] at hc
      subst hc
      go_enter Tryd.func101, Tryd.ntmps101
      go_wp2_with (refine (isNaN64_any _ _).mono ?_; rintro e w' ⟨rfl, rfl⟩)
      go_ret
      exact ⟨rfl, rfl⟩
    · rw [if_neg h2] at hc
      subst hc
      go_enter Tryd.func101, Tryd.ntmps101
      go_wp2_with (refine (isNaN64_any _ _).mono ?_; rintro e w' ⟨rfl, rfl⟩)
      go_ret
      exact ⟨rfl, rfl⟩
theorem isNaN8_any (x : Int) (w : World) : Calls Tryd.prog 109 #[.int .i8 x] w fun e w' => e = .returned (.bool false) ∧ w' = w := by
  go_enter Tryd.func109, Tryd.ntmps109
  go_wp2
  go_ret
  exact ⟨rfl, rfl⟩
theorem compare8_any (x y c : Int) (w : World) (hc : cmpI x y = c) : Calls Tryd.prog 102 #[.int .i8 x, .int .i8 y] w fun e w' => e = .returned (.int .i64 c) ∧ w' = w := by
  unfold cmpI at hc
  by_cases h1 : x < y
  · rw [if_pos h1] at hc
    subst hc
    go_enter Tryd.func102, Tryd.ntmps102
    go_wp2_with (refine (isNaN8_any _ _).mono ?_; rintro e w' ⟨rfl, rfl⟩)
    go_ret
    exact ⟨rfl, rfl⟩
  · rw [if_neg h1] at hc
    by_cases h2 : y < x
    · rw [if_pos h2] at hc
      subst hc
      go_enter Tryd.func102, Tryd.ntmps102
      go_wp2_with (refine (isNaN8_any _ _).mono ?_; rintro e w' ⟨rfl, rfl⟩)
      go_ret
      exact ⟨rfl, rfl⟩
    · rw [if_neg h2] at hc
      subst hc
      go_enter Tryd.func102, Tryd.ntmps102
      go_wp2_with (refine (isNaN8_any _ _).mono ?_; rintro e w' ⟨rfl, rfl⟩)
      go_ret
      exact ⟨rfl, rfl⟩
set_option maxHeartbeats 1000000 in
theorem or3_any (b cap : Nat) (x y z r : Int) (w : World) (h0 : w.cell? ⟨b, 0, none⟩ = some (.int .i64 x)) (h1 : w.cell? ⟨b, 1, none⟩ = some (.int .i64 y)) (h2 : w.cell? ⟨b, 2, none⟩ = some (.int .i64 z)) (hr : orI x y z = r) :
    Calls Tryd.prog 100 #[.slice (some ⟨b, 0, none⟩) 3 cap] w fun e w' => e = .returned (.int .i64 r) ∧ w' = w := by
  unfold orI at hr
  by_cases g0 : x = 0
  · rw [if_neg (by simpa using g0)] at hr
    by_cases g1 : y = 0
    · rw [if_neg (by simpa using g1)] at hr
      subst g0 g1 hr
      by_cases g2 : z = 0
      · subst g2
        go_enter Tryd.func100, Tryd.ntmps100
        go_wp2
        refine wp_loop_rounds 4 ?_
        rw [rounds_succ]
        go_wp2
        rw [rounds_succ]
        go_wp2
        rw [rounds_succ]
        go_wp2
        rw [rounds_succ]
        go_wp2
        go_ret
        exact ⟨rfl, rfl⟩
      · go_enter Tryd.func100, Tryd.ntmps100
        go_wp2
        refine wp_loop_rounds 3 ?_
        rw [rounds_succ]
        go_wp2
        rw [rounds_succ]
        go_wp2
        rw [rounds_succ]
        go_wp2
        go_ret
        exact ⟨rfl, rfl⟩
    · rw [if_pos (by simpa using g1)] at hr
      subst g0 hr
      go_enter Tryd.func100, Tryd.ntmps100
      go_wp2
      refine wp_loop_rounds 2 ?_
      rw [rounds_succ]
      go_wp2
      rw [rounds_succ]
      go_wp2
      go_ret
      exact ⟨rfl, rfl⟩
  · rw [if_pos (by simpa using g0)] at hr
    subst hr
    go_enter Tryd.func100, Tryd.ntmps100
    go_wp2
    refine wp_loop_rounds 1 ?_
    rw [rounds_succ]
    go_wp2
    go_ret
    exact ⟨rfl, rfl⟩
set_option maxRecDepth 100000 in
set_option maxHeartbeats 2000000 in
theorem compareHits_any (i j : Int) (f g : Fl) (c : Int) (w : World) (hc : cmpH f g = c) :
    Calls Tryd.prog 89 #[.agg #[.int .i64 i, .int .i64 f.tick, .int .i8 f.frm, .int .i64 f.who], .agg #[.int .i64 j, .int .i64 g.tick, .int .i8 g.frm, .int .i64 g.who]] w fun e w' => e = .returned (.int .i64 c) ∧ Below w.heap.size w w' := by
  obtain ⟨c0, h0⟩ : ∃ c0, cmpI f.tick g.tick = c0 := ⟨_, rfl⟩
  obtain ⟨c1, h1⟩ : ∃ c1, cmpI f.frm g.frm = c1 := ⟨_, rfl⟩
  obtain ⟨c2, h2⟩ : ∃ c2, cmpI f.who g.who = c2 := ⟨_, rfl⟩
  have HO := Lib.hid (show orI c0 c1 c2 = c by rw [← hc, ← h0, ← h1, ← h2]; rfl)
  have K0 := Lib.hid (fun W => compare64_any _ _ _ W h0)
  have K1 := Lib.hid (fun W => compare8_any _ _ _ W h1)
  have K2 := Lib.hid (fun W => compare64_any _ _ _ W h2)
  obtain ⟨ft, ff, fw⟩ := f
  obtain ⟨gt, gf, gw⟩ := g
  clear hc h0 h1 h2
  simp only at K0 K1 K2
  obtain ⟨W0, hW0⟩ : ∃ W0 : World, (w.alloc (.cells #[.int .i64 i, .int .i64 ft, .int .i8 ff, .int .i64 fw] 107)).alloc (.cells #[.int .i64 j, .int .i64 gt, .int .i8 gf, .int .i64 gw] 107) = W0 := ⟨_, rfl⟩
  have a1 : W0.cell? ⟨w.heap.size, 1, none⟩ = some (.int .i64 ft) := by rw [← hW0]; simp
  have a2 : W0.cell? ⟨w.heap.size, 2, none⟩ = some (.int .i8 ff) := by rw [← hW0]; simp
  have a3 : W0.cell? ⟨w.heap.size, 3, none⟩ = some (.int .i64 fw) := by rw [← hW0]; simp
  have b1 : W0.cell? ⟨w.heap.size + 1, 1, none⟩ = some (.int .i64 gt) := by rw [← hW0]; simp
  have b2 : W0.cell? ⟨w.heap.size + 1, 2, none⟩ = some (.int .i8 gf) := by rw [← hW0]; simp
  have b3 : W0.cell? ⟨w.heap.size + 1, 3, none⟩ = some (.int .i64 gw) := by rw [← hW0]; simp
  have T0 : Below w.heap.size w W0 := by rw [← hW0]; exact kAlloc (kAlloc (Below.refl _ _) _) _
  have HW := Lib.hid hW0
  clear hW0
  go_enter Tryd.func89, Tryd.ntmps89
  go_wp2_with fail
  rw [HW.out]
  refine wp_region_still_tail 21 (by kernel_rfl) (by kernel_rfl) ?_
  simp only [List.take_succ_cons, List.take_zero, List.drop_succ_cons, List.drop_zero]
  repeat still_step
  still_call (K0.out _)
  repeat still_step
  still_call (K1.out _)
  repeat still_step
  still_call (K2.out _)
  repeat still_step
  try refine wpStill_nil ?_
  change wpList _ _ _ _ _ W0.drew
  have T1 : Below w.heap.size w W0.drew := Below.drew T0
  generalize W0.drew = W1 at T1 ⊢
  go_wp2_with fail
  refine (or3_any _ _ c0 c1 c2 c _ (by simp) (by simp) (by simp) HO.out).mono ?_
  rintro e w' ⟨rfl, rfl⟩
  go_wp2
  go_ret
  exact ⟨rfl, by repeat (first | with_reducible exact Below.refl _ _ | (with_reducible refine kSet ?_ ?hB _; case hB => (simp; try omega)) | with_reducible refine kAlloc ?_ _ | with_reducible refine Below.drew ?_ | with_reducible refine kDrewN ?_ _ | with_reducible refine kTrans ?_ (by assumption))⟩
end Go.Proofs.YtflkfkbdgekpkaaDoor

/- slices.BinarySearchFunc at rows of hits: the place ahead of which all hits come before a hit. -/
namespace Go.Proofs.YtflkfkbdgekpkaaDoor
open Go.ChangeShapes Go.WideShapes Go.ChangeAt Go.RowKit
set_option linter.unusedVariables false
set_option linter.unusedSimpArgs false

def posOf (Q : List Ht) (f : Fl) : Nat := (Q.takeWhile (fun y => decide (lessF y.2 f))).length
theorem posOf_split (Q : List Ht) (h : Ht) : insH Q h = Q.take (posOf Q h.2) ++ h :: Q.drop (posOf Q h.2) := by
  have e := List.takeWhile_append_dropWhile (p := fun y : Ht => decide (lessF y.2 h.2)) (l := Q)
  have e1 : Q.take (posOf Q h.2) = Q.takeWhile (fun y => decide (lessF y.2 h.2)) := by
    have := List.take_left' (l₁ := Q.takeWhile (fun y : Ht => decide (lessF y.2 h.2))) (l₂ := Q.dropWhile (fun y : Ht => decide (lessF y.2 h.2))) rfl
    rw [e] at this; exact this
  have e2 : Q.drop (posOf Q h.2) = Q.dropWhile (fun y => decide (lessF y.2 h.2)) := by
    have := List.drop_left' (l₁ := Q.takeWhile (fun y : Ht => decide (lessF y.2 h.2))) (l₂ := Q.dropWhile (fun y : Ht => decide (lessF y.2 h.2))) rfl
    rw [e] at this; exact this
  rw [e1, e2]
  rfl
theorem posOf_le (Q : List Ht) (f : Fl) : posOf Q f ≤ Q.length := by
  have := congrArg List.length (List.takeWhile_append_dropWhile (p := fun y : Ht => decide (lessF y.2 f)) (l := Q))
  rw [List.length_append] at this
  unfold posOf; omega
theorem posOf_eq {f : Fl} : ∀ (Q : List Ht) (k : Nat), k ≤ Q.length → (∀ t (h : t < Q.length), t < k → lessF Q[t].2 f) → (∀ t (h : t < Q.length), k ≤ t → ¬ lessF Q[t].2 f) → posOf Q f = k
  | [], k, hk, _, _ => by simp at hk; simp [posOf, hk]
  | x :: Q, 0, _, _, h2 => by
    have := h2 0 (by simp) (Nat.le_refl _)
    simp only [List.getElem_cons_zero] at this
    unfold posOf
    rw [List.takeWhile_cons_of_neg (by simpa using this)]
    rfl
  | x :: Q, k + 1, hk, h1, h2 => by
    have h0 := h1 0 (by simp) (by omega)
    simp only [List.getElem_cons_zero] at h0
    have ih := posOf_eq Q k (by simpa using hk) (fun t ht hl => by have := h1 (t + 1) (by simpa using ht) (by omega); simpa using this) (fun t ht hl => by have := h2 (t + 1) (by simpa using ht) (by omega); simpa using this)
    unfold posOf at ih ⊢
    rw [List.takeWhile_cons_of_pos (by simpa using h0), List.length_cons, ih]
theorem less_before {Q : List Ht} {f : Fl} (hs : Q.Pairwise fun x y => leF x.2 y.2) {a b : Nat} (ha : a < Q.length) (hb : b < Q.length) (hab : a ≤ b) (h : lessF Q[b].2 f) : lessF Q[a].2 f := by
  by_cases e : a = b
  · subst e; exact h
  · have := List.pairwise_iff_getElem.1 hs a b ha hb (by omega)
    unfold leF lessF at *
    omega

def fnCmp : Value := .func (.func 89) #[] #[]
set_option maxRecDepth 100000 in
set_option maxHeartbeats 4000000 in
theorem bsearch_row (g o cap : Nat) (Q : List Ht) (i : Int) (f : Fl) (w : World) (n : Nat) (hn : Q.length = n) (hr : QRow 107 w g o cap Q) (hs : Q.Pairwise fun x y => leF x.2 y.2) (hmax : n ≤ 1048576) :
    Calls Tryd.prog 88 #[.slice (some ⟨g, o * 4, none⟩) n cap, .agg #[.int .i64 i, .int .i64 f.tick, .int .i8 f.frm, .int .i64 f.who], fnCmp] w fun e w' =>
      ∃ b, e = .returned (.tuple #[.int .i64 (posOf Q f), .bool b]) ∧ Below w.heap.size w w' := by
  have Hn := Lib.hid hn
  have HS := Lib.hid hs
  have hgl := hr.lt
  have HR := Lib.hid hr
  have T0 : Below w.heap.size w (w.alloc (.cells #[.int .i64 i, .int .i64 f.tick, .int .i8 f.frm, .int .i64 f.who] 107)) := kAlloc (Below.refl _ _) _
  have X0 := Lib.hid (heap_alloc_new w (.cells #[.int .i64 i, .int .i64 f.tick, .int .i8 f.frm, .int .i64 f.who] 107))
  have I0 : Hid ((∀ t (h : t < Q.length), t < 0 → lessF Q[t].2 f) ∧ (∀ t (h : t < Q.length), n ≤ t → ¬ lessF Q[t].2 f)) := Lib.hid ⟨fun t _ h => absurd h (Nat.not_lt_zero _), fun t h1 h2 => by omega⟩
  clear hn hs hr
  unfold fnCmp
  go_enter Tryd.func88, Tryd.ntmps88
  go_wp2
  go_loopw [9, 10] (fun a b wr => ∃ lo hi : Nat, a = .int .i64 lo ∧ b = .int .i64 hi ∧ lo ≤ hi ∧ hi ≤ n ∧ Hid ((∀ t (h : t < Q.length), t < lo → lessF Q[t].2 f) ∧ (∀ t (h : t < Q.length), hi ≤ t → ¬ lessF Q[t].2 f)) ∧ Hid (wr.heap[w.heap.size]? = some (.cells #[.int .i64 i, .int .i64 f.tick, .int .i8 f.frm, .int .i64 f.who] 107 (0, 0))) ∧ Below w.heap.size w wr) (fun a b _ => (intOf b).toNat - (intOf a).toNat)
  case atStart => exact ⟨0, n, rfl, rfl, Nat.zero_le _, Nat.le_refl _, I0, X0, T0⟩
  case round =>
    clear I0 X0 T0
    obtain ⟨lo, hi, rfl, rfl, hlh, hin, I, X, T⟩ := hrel
    have cx0 : wr.cell? ⟨w.heap.size, 0, none⟩ = some (.int .i64 i) := cell_of_row _ _ 0 _ _ _ X.out
    have cx1 : wr.cell? ⟨w.heap.size, 1, none⟩ = some (.int .i64 f.tick) := cell_of_row _ _ 1 _ _ _ X.out
    have cx2 : wr.cell? ⟨w.heap.size, 2, none⟩ = some (.int .i8 f.frm) := cell_of_row _ _ 2 _ _ _ X.out
    have cx3 : wr.cell? ⟨w.heap.size, 3, none⟩ = some (.int .i64 f.who) := cell_of_row _ _ 3 _ _ _ X.out
    have lx := blk_lt X.out
    by_cases hlt : lo < hi
    · have hm : (lo + hi) / 2 < Q.length := by rw [Hn.out]; omega
      have hmn : (lo + hi) / 2 < n := by omega
      have hqr := HR.out.of_block (T.block g hgl)
      have q0 := hqr.cell (i := 0) hm (by omega)
      have q1 := hqr.cell (i := 1) hm (by omega)
      have q2 := hqr.cell (i := 2) hm (by omega)
      have q3 := hqr.cell (i := 3) hm (by omega)
      have lq := hqr.lt
      obtain ⟨y, hy⟩ : ∃ y, Q[(lo + hi) / 2] = y := ⟨_, rfl⟩
      rw [hy] at q0 q1 q2 q3
      have HY : Hid (∀ h : (lo + hi) / 2 < Q.length, Q[(lo + hi) / 2] = y) := Lib.hid (fun _ => hy)
      obtain ⟨c, hc⟩ : ∃ c, cmpH y.2 f = c := ⟨_, rfl⟩
      have HC : Hid (c < 0 ↔ lessF y.2 f) := Lib.hid (by rw [← hc]; exact cmpH_neg _ _)
      have K := Lib.hid (fun W => compareHits_any y.1 i y.2 f c W hc)
      simp only [htCells, List.getElem?_cons_zero, List.getElem?_cons_succ, Nat.add_zero] at q0 q1 q2 q3
      clear hc hqr hm hy
      have HK := K
      clear K
      go_wp2_with fail
      rw [show ((lo : Int) + (hi : Int)) / 2 = (((lo + hi) / 2 : Nat) : Int) by omega]
      have Hm := Lib.hid (show lo ≤ (lo + hi) / 2 ∧ (lo + hi) / 2 < hi by omega)
      generalize (lo + hi) / 2 = m at *
      rw [show (o + m) * 4 = o * 4 + m * 4 by omega] at q0 q1 q2 q3
      obtain ⟨hm1, hm2⟩ := Hm.out
      refine wp_region_class (fun w' => Below wr.heap.size wr w') (by kernel_rfl) (by kernel_rfl) (Below.drew (Below.refl _ _)) ?_
      repeat (first
        | go_big_quiet_skip
        | (go_big_quiet_want; go_big_quiet_op; go_big_quiet_on)
        | (refine wpQuiet_step (fun K hK => ?_)
           go_simp
           refine hK _ ?_
           clear hK K)
        | (refine wpQuiet_step (fun K hK => ?_)
           go_simp
           apply Exists.intro
           refine ⟨fun w1 hw1 => ?_, hK _ ?_⟩
           · first
             | exact rfl
             | (go_at_call 89
                (with_reducible refine (HK.out w1).mono ?_)
                exact fun e w2 h => ⟨h.1, kTrans hw1 h.2⟩)
             | (have dx0 := (hw1.cell (p := ⟨w.heap.size, 0, none⟩) lx).trans cx0
                have dx1 := (hw1.cell (p := ⟨w.heap.size, 1, none⟩) lx).trans cx1
                have dx2 := (hw1.cell (p := ⟨w.heap.size, 2, none⟩) lx).trans cx2
                have dx3 := (hw1.cell (p := ⟨w.heap.size, 3, none⟩) lx).trans cx3
                have dq0 := (hw1.cell (p := ⟨g, _, none⟩) lq).trans q0
                have dq1 := (hw1.cell (p := ⟨g, _, none⟩) lq).trans q1
                have dq2 := (hw1.cell (p := ⟨g, _, none⟩) lq).trans q2
                have dq3 := (hw1.cell (p := ⟨g, _, none⟩) lq).trans q3
                go_simp
                exact rfl)
           clear hK K))
      refine wpQuiet_nil ?_
      intro w3 hw3
      have T3 := kTrans T hw3
      have X3 := Lib.hid (blk_below X.out hw3)
      clear q0 q1 q2 q3 cx0 cx1 cx2 cx3 hw3 HK
      by_cases hc : c < 0
      · have I2 : Hid ((∀ t (h : t < Q.length), t < m + 1 → lessF Q[t].2 f) ∧ (∀ t (h : t < Q.length), hi ≤ t → ¬ lessF Q[t].2 f)) := Lib.hid ⟨fun t ht h2 => less_before HS.out ht (by rw [Hn.out]; exact hmn) (by omega) (by rw [HY.out]; exact HC.out.1 hc), I.out.2⟩
        go_wp2
        exact ⟨⟨m + 1, hi, by go_num, rfl, by omega, hin, I2, X3, T3⟩, by simp [intOf]; omega⟩
      · have I2 : Hid ((∀ t (h : t < Q.length), t < lo → lessF Q[t].2 f) ∧ (∀ t (h : t < Q.length), m ≤ t → ¬ lessF Q[t].2 f)) := Lib.hid ⟨I.out.1, fun t ht h2 h3 => hc (HC.out.2 (by have := less_before HS.out (by rw [Hn.out]; exact hmn) ht h2 h3; rw [HY.out] at this; exact this))⟩
        go_wp2
        exact ⟨⟨lo, m, rfl, rfl, by omega, by omega, I2, X3, T3⟩, by simp [intOf]; omega⟩
    · obtain rfl : lo = hi := by omega
      have HP : Hid (posOf Q f = lo) := Lib.hid (posOf_eq Q lo (by rw [Hn.out]; exact hin) I.out.1 I.out.2)
      by_cases hln : lo < n
      · have hm : lo < Q.length := by rw [Hn.out]; omega
        have hqr := HR.out.of_block (T.block g hgl)
        have q0 := hqr.cell (i := 0) hm (by omega)
        have q1 := hqr.cell (i := 1) hm (by omega)
        have q2 := hqr.cell (i := 2) hm (by omega)
        have q3 := hqr.cell (i := 3) hm (by omega)
        have lq := hqr.lt
        obtain ⟨y, hy⟩ : ∃ y, Q[lo] = y := ⟨_, rfl⟩
        rw [hy] at q0 q1 q2 q3
        obtain ⟨c, hc⟩ : ∃ c, cmpH y.2 f = c := ⟨_, rfl⟩
        have HK := Lib.hid (fun W => compareHits_any y.1 i y.2 f c W hc)
        simp only [htCells, List.getElem?_cons_zero, List.getElem?_cons_succ, Nat.add_zero] at q0 q1 q2 q3
        rw [show (o + lo) * 4 = o * 4 + lo * 4 by omega] at q0 q1 q2 q3
        have e1 : decide ((lo : Int) < (n : Int)) = true := by simp; omega
        have e2 : decide (lo < n) = true := by simpa using hln
        clear hc hqr hm hy
        go_wp2_with fail
        refine wp_region_class (fun w' => Below wr.heap.size wr w') (by kernel_rfl) (by kernel_rfl) (Below.drew (Below.refl _ _)) ?_
        repeat (first
          | go_big_quiet_skip
          | (go_big_quiet_want; go_big_quiet_op; go_big_quiet_on)
          | (refine wpQuiet_step (fun K hK => ?_)
             go_simp
             refine hK _ ?_
             clear hK K)
          | (refine wpQuiet_step (fun K hK => ?_)
             go_simp
             apply Exists.intro
             refine ⟨fun w1 hw1 => ?_, hK _ ?_⟩
             · first
               | exact rfl
               | (go_at_call 89
                  (with_reducible refine (HK.out w1).mono ?_)
                  exact fun e w2 h => ⟨h.1, kTrans hw1 h.2⟩)
               | (have dx0 := (hw1.cell (p := ⟨w.heap.size, 0, none⟩) lx).trans cx0
                  have dx1 := (hw1.cell (p := ⟨w.heap.size, 1, none⟩) lx).trans cx1
                  have dx2 := (hw1.cell (p := ⟨w.heap.size, 2, none⟩) lx).trans cx2
                  have dx3 := (hw1.cell (p := ⟨w.heap.size, 3, none⟩) lx).trans cx3
                  have dq0 := (hw1.cell (p := ⟨g, _, none⟩) lq).trans q0
                  have dq1 := (hw1.cell (p := ⟨g, _, none⟩) lq).trans q1
                  have dq2 := (hw1.cell (p := ⟨g, _, none⟩) lq).trans q2
                  have dq3 := (hw1.cell (p := ⟨g, _, none⟩) lq).trans q3
                  go_simp
                  exact rfl)
             clear hK K))
        refine wpQuiet_nil ?_
        intro w3 hw3
        have T3 := kTrans T hw3
        have X3 := Lib.hid (blk_below X.out hw3)
        clear q0 q1 q2 q3 cx0 cx1 cx2 cx3 hw3 HK
        go_wp2
        go_ret2
        exact ⟨_, congrArg (fun k : Nat => Ending.returned (.tuple #[.int .i64 k, .bool _])) HP.out.symm, T3⟩
      · have e1 : decide ((lo : Int) < (n : Int)) = false := by simp; omega
        have e2 : decide (lo < n) = false := by simpa using hln
        clear cx0 cx1 cx2 cx3
        go_wp2_with fail
        go_quiet (fail)
        go_wp2
        go_ret2
        exact ⟨_, congrArg (fun k : Nat => Ending.returned (.tuple #[.int .i64 k, .bool _])) HP.out.symm, by first | exact T | exact Below.drew T | exact kDrewN T _⟩
theorem bsearch_any (base : Nat) (v : Value) (Q : List Ht) (i : Int) (f : Fl) (w : World) (hq : QAt 107 w base v Q) (hs : Q.Pairwise fun x y => leF x.2 y.2) (hmax : Q.length ≤ 1048576) :
    Calls Tryd.prog 88 #[v, .agg #[.int .i64 i, .int .i64 f.tick, .int .i8 f.frm, .int .i64 f.who], fnCmp] w fun e w' =>
      ∃ b, e = .returned (.tuple #[.int .i64 (posOf Q f), .bool b]) ∧ Below w.heap.size w w' := by
  rcases hq with ⟨rfl, a, rfl⟩ | ⟨g, o, c, rfl, hb, h0, hc, hr⟩
  · have T0 : Below w.heap.size w (w.alloc (.cells #[.int .i64 i, .int .i64 f.tick, .int .i8 f.frm, .int .i64 f.who] 107)) := kAlloc (Below.refl _ _) _
    unfold fnCmp
    go_enter Tryd.func88, Tryd.ntmps88
    go_wp2
    refine wp_loop_rounds 1 ?_
    rw [rounds_succ]
    go_wp2_with fail
    go_quiet (fail)
    go_wp2
    go_ret2
    exact ⟨_, rfl, by first | exact T0 | exact Below.drew T0 | exact kDrewN T0 _⟩
  · exact bsearch_row g o c Q i f w _ rfl hr hs hmax
end Go.Proofs.YtflkfkbdgekpkaaDoor

/- slices.Insert of one hit into a row of hits: in place or into a new row. -/
namespace Go.Proofs.YtflkfkbdgekpkaaDoor
open Go.ChangeShapes Go.WideShapes Go.ChangeAt Go.RowKit
set_option linter.unusedVariables false
set_option linter.unusedSimpArgs false

theorem row_end (A C : List Value) (Q : List Ht) (h : Ht) (hC : 4 ≤ C.length) :
    (A ++ flatH Q ++ C).take (A.length + Q.length * 4) ++ htCells h ++ (A ++ flatH Q ++ C).drop (A.length + Q.length * 4 + (htCells h).length) = A ++ flatH (Q ++ [h]) ++ C.drop 4 := by
  rw [seg_write (X := A ++ flatH Q) (Y := C.take 4) (Z := C.drop 4) (by rw [List.append_assoc (A ++ flatH Q), List.take_append_drop]) (by rw [List.length_append, flatH_length]) (by simp [htCells]; omega), flatH_append]
  simp [flatH]
theorem row_shift1 (A C : List Value) (Q1 Q2 : List Ht) (hC : 4 ≤ C.length) :
    (A ++ flatH (Q1 ++ Q2) ++ C).take (A.length + (Q1.length + 1) * 4) ++ flatH Q2 ++ (A ++ flatH (Q1 ++ Q2) ++ C).drop (A.length + (Q1.length + 1) * 4 + (flatH Q2).length) = A ++ flatH Q1 ++ (flatH Q2 ++ C).take 4 ++ flatH Q2 ++ C.drop 4 := by
  refine seg_write (X := A ++ flatH Q1 ++ (flatH Q2 ++ C).take 4) (Y := ((flatH Q2 ++ C).drop 4).take (flatH Q2).length) (Z := C.drop 4) ?_ ?_ ?_
  · have e : (flatH Q2 ++ C).take 4 ++ (((flatH Q2 ++ C).drop 4).take (flatH Q2).length ++ C.drop 4) = flatH Q2 ++ C := by
      have e2 : C.drop 4 = ((flatH Q2 ++ C).drop 4).drop (flatH Q2).length := by
        rw [List.drop_drop, show 4 + (flatH Q2).length = (flatH Q2).length + 4 by omega, ← List.drop_drop, List.drop_left' rfl]
      rw [e2, List.take_append_drop, List.take_append_drop]
    rw [flatH_append, List.append_assoc (A ++ flatH Q1 ++ List.take 4 _), List.append_assoc (A ++ flatH Q1), e]
    simp [List.append_assoc]
  · simp only [List.length_append, List.length_take, flatH_length]
    omega
  · simp only [List.length_append, List.length_take, List.length_drop]
    omega
theorem row_shift2 (A D : List Value) (X : List Value) (Q1 Q2 : List Ht) (h : Ht) (hX : X.length = 4) :
    (A ++ flatH Q1 ++ X ++ flatH Q2 ++ D).take (A.length + Q1.length * 4) ++ htCells h ++ (A ++ flatH Q1 ++ X ++ flatH Q2 ++ D).drop (A.length + Q1.length * 4 + (htCells h).length) = A ++ flatH (Q1 ++ h :: Q2) ++ D := by
  rw [seg_write (X := A ++ flatH Q1) (Y := X) (Z := flatH Q2 ++ D) (by simp [List.append_assoc]) (by rw [List.length_append, flatH_length]) (by simp [htCells, hX]), flatH_append, flatH_cons]
  simp [List.append_assoc]
theorem zeroHits_length (k : Nat) : (Builtin.zeroCells (Value.agg #[.int .i64 0, .int .i64 0, .int .i8 0, .int .i64 0]).cells k).toList.length = k * 4 := by
  simp [Builtin.zeroCells, Value.cells]
theorem grownBy_row (w : World) (g : Nat) (cs : Array Value) : w.grownBy (w.setRow g cs) (some g) :=
  ⟨rfl, rfl, rfl, by simp, fun k _ hne => setRow_other _ _ _ _ (fun e => hne (by rw [e]))⟩
theorem grownBy_drew {w w' : World} {row : Option Nat} (h : w.grownBy w' row) : w.grownBy w'.drew row := ⟨h.os, h.tape, h.output, h.size, h.block⟩
theorem grownBy_of_drew {w w' : World} {row : Option Nat} (h : w.drew.grownBy w' row) : w.grownBy w' row := ⟨h.os, h.tape, h.output, h.size, h.block⟩

theorem info_hit : (Tryd.prog.info? 107).map (fun i => (i.zero, i.size, i.bytes)) = some (some (.agg #[.int .i64 0, .int .i64 0, .int .i8 0, .int .i64 0]), 4, 32) := by kernel_rfl
/-- what Insert leaves -/
def InsPost (base : Nat) (v : Value) (Q : List Ht) (w : World) (e : Ending) (w' : World) : Prop :=
  ∃ v', e = .returned v' ∧ QAt 107 w' base v' Q ∧ w.grownBy w' (ownR v) ∧ (ownR v' = ownR v ∨ ∃ g, ownR v' = some g ∧ w.heap.size ≤ g)
theorem news_of {w : World} {vb : Nat} {T : TypeId} {h : Ht} (hv : w.heap[vb]? = some (.cells (htCells h).toArray T (0, 0))) : ∀ j u, (htCells h)[j]? = some u → w.cell? ((⟨vb, 0, none⟩ : Addr).add j) = some u := by
  intro j u hj
  rw [Addr.add_lit, Nat.zero_add, cell_of_row w vb j _ _ _ hv]
  simpa using hj
set_option maxRecDepth 100000 in
set_option maxHeartbeats 4000000 in
/-- at the end: a new row -/
theorem insert_grow_end (base : Nat) (a : Option Addr) (n c vb vc : Nat) (Q : List Ht) (h : Ht) (w : World) (T : TypeId) (hn : Q.length = n) (hnc : c = n) (hbase : base ≤ w.heap.size)
    (hcs : a = none ∧ n = 0 ∨ ∃ ad : Addr, a = some ad ∧ ∀ j u, (flatH Q)[j]? = some u → w.cell? (ad.add j) = some u) (hv : w.heap[vb]? = some (.cells (htCells h).toArray T (0, 0))) (hmax : n ≤ 1048576) :
    Calls Tryd.prog 90 #[.slice a n c, .int .i64 n, .slice (some ⟨vb, 0, none⟩) 1 vc] w (InsPost base (.slice a n c) (Q ++ [h]) w) := by
  subst hnc
  obtain ⟨i0, hi0, hz0, hzs, hzb⟩ := info_parts info_hit
  have hsrc : Src Tryd.prog i0.size 133 (.slice (some ⟨vb, 0, none⟩) 1 vc) 1 (htCells h) w := by
    rw [hzs]; exact Src.ofSlice w Tryd.underlying133 ⟨vb, 0, none⟩ 1 vc _ (by simp [htCells]) (news_of hv) (htCells_one h)
  have hold : (Builtin.firstCells i0.size c (.slice a c c)).run Tryd.prog w.drew = .ok (flatH Q).toArray w.drew := by
    rw [hzs]
    rcases hcs with ⟨rfl, h0⟩ | ⟨ad, rfl, hc⟩
    · obtain rfl : Q = [] := List.length_eq_zero_iff.1 (by omega)
      exact run_firstCells_none w.drew 4 c c c
    · exact run_firstCells_some w.drew 4 c ad c c (flatH Q) (by rw [flatH_length, hn]) hc
  have hrun := fun ty => run_append_grow_src w 133 133 ty 107 i0 _ Tryd.underlying133 hi0 hz0 a c c (flatH Q) hold _ 1 (htCells h) hsrc (by omega) (by omega) (by rw [hzb]; exact growslice_fits (by omega) (by omega))
  obtain ⟨G, hG⟩ : ∃ G, G = grownCap w (c + 1) c 107 := ⟨_, rfl⟩
  have hGn : c + 1 ≤ G := by rw [hG]; exact grownCap_ge w _ _ _
  have hG63 : G ≤ 9223372036854775807 := by
    have := grownCap_le_maxLen w (c + 1) c 107 (by unfold maxLen; omega)
    rw [← hG] at this; unfold maxLen at this; omega
  obtain ⟨ROW, hROW⟩ : ∃ ROW : Array Value, ROW = (flatH Q ++ htCells h).toArray ++ Builtin.zeroCells (Value.agg #[.int .i64 0, .int .i64 0, .int .i8 0, .int .i64 0]).cells (G - (c + 1)) := ⟨_, rfl⟩
  rw [← hG, ← hROW] at hrun
  have post : InsPost base (.slice a c c) (Q ++ [h]) w (.returned (.slice (some ⟨w.heap.size, 0, none⟩) (c + 1) G)) (w.drew.alloc (.cells ROW 107)) := by
    refine ⟨_, rfl, .inr ⟨w.heap.size, 0, G, by simp [hn], hbase, by omega, hG63, [], (Builtin.zeroCells (Value.agg #[.int .i64 0, .int .i64 0, .int .i8 0, .int .i64 0]).cells (G - (c + 1))).toList, ?_, rfl, ?_⟩, ?_, .inr ⟨_, ownR_some (by omega), Nat.le_refl _⟩⟩
    · refine (heap_alloc_new w.drew (.cells ROW 107)).trans ?_
      rw [hROW, flatH_append]
      congr 2
      apply Array.ext'
      simp [flatH]
    · rw [zeroHits_length, List.length_append, List.length_singleton, hn]; omega
    · exact grownBy_of_drew (World.grownBy_alloc _ _ _)
  have HP := Lib.hid post
  have HR := Lib.hid hrun
  clear post hrun hROW hG hGn hG63 hold hsrc hi0 hz0 hzs hzb hcs hn hv
  have e1 : ¬ (c : Int) < 0 := by omega
  cases a with
  | none =>
    go_enter Tryd.func90, Tryd.ntmps90
    go_wp2_with (at_builtin; refine Lib.wpList_append_run _ rfl _ _ _ _ rfl _ _ rfl rfl _ _ (HR.out _) ?_)
    go_ret
    exact HP.out
  | some ad =>
    obtain ⟨ab, ao, asp⟩ := ad
    go_enter Tryd.func90, Tryd.ntmps90
    go_wp2_with (at_builtin; refine Lib.wpList_append_run _ rfl _ _ _ _ rfl _ _ rfl rfl _ _ (HR.out _) ?_)
    all_goals (go_ret; exact HP.out)
set_option maxRecDepth 100000 in
set_option maxHeartbeats 4000000 in
/-- at the end: in place -/
theorem insert_room_end (base g o c vb vc : Nat) (Q : List Ht) (h : Ht) (w : World) (T : TypeId) (n : Nat) (hn : Q.length = n) (hnc : n < c) (hc63 : c ≤ 9223372036854775807) (hb : base ≤ g)
    (hr : QRow 107 w g o c Q) (hv : w.heap[vb]? = some (.cells (htCells h).toArray T (0, 0))) (hmax : n ≤ 1048576) :
    Calls Tryd.prog 90 #[.slice (some ⟨g, o * 4, none⟩) n c, .int .i64 n, .slice (some ⟨vb, 0, none⟩) 1 vc] w (InsPost base (.slice (some ⟨g, o * 4, none⟩) n c) (Q ++ [h]) w) := by
  obtain ⟨A, C, hg, hA, hC⟩ := hr
  obtain ⟨i0, hi0, hz0, hzs, hzb⟩ := info_parts info_hit
  have hsrc : Src Tryd.prog i0.size 133 (.slice (some ⟨vb, 0, none⟩) 1 vc) 1 (htCells h) w := by
    rw [hzs]; exact Src.ofSlice w Tryd.underlying133 ⟨vb, 0, none⟩ 1 vc _ (by simp [htCells]) (news_of hv) (htCells_one h)
  have hrun := fun ty => run_append_room_row w 133 133 ty 107 i0 Tryd.underlying133 hi0 g (o * 4) n c _ 1 (htCells h) hsrc (by omega) _ _ hg (by rw [hzs]; simp [flatH_length, htCells]; omega)
  rw [hzs] at hrun
  have e0 := row_end A C Q h (by omega)
  rw [hA, hn] at e0
  simp only [e0] at hrun
  have post : InsPost base (.slice (some ⟨g, o * 4, none⟩) n c) (Q ++ [h]) w (.returned (.slice (some ⟨g, o * 4, none⟩) (n + 1) c)) (w.setRow g (A ++ flatH (Q ++ [h]) ++ C.drop 4).toArray) := by
    refine ⟨_, rfl, .inr ⟨g, o, c, by simp [hn], hb, by omega, hc63, A, C.drop 4, setRow_heap _ _ _ _ _ _ hg, hA, ?_⟩, by rw [ownR_some (by omega)]; exact grownBy_row _ _ _, .inl rfl⟩
    rw [List.length_drop, List.length_append, List.length_singleton]; omega
  obtain ⟨R, hR⟩ : ∃ R, R = (A ++ flatH (Q ++ [h]) ++ C.drop 4).toArray := ⟨_, rfl⟩
  rw [← hR] at post hrun
  clear hR
  have HP := Lib.hid post
  have HR := Lib.hid hrun
  clear post hrun hg hA hC e0 hsrc hi0 hz0 hzs hzb hn hv
  go_enter Tryd.func90, Tryd.ntmps90
  go_wp2_with (at_builtin; refine Lib.wpList_append_run _ rfl _ _ _ _ rfl _ _ rfl rfl _ _ (HR.out _) ?_)
  go_ret
  exact HP.out
end Go.Proofs.YtflkfkbdgekpkaaDoor

/- slices.Insert of one hit into a row of hits, ahead of others: in place, or into a new row; the contract for all. -/
namespace Go.Proofs.YtflkfkbdgekpkaaDoor
open Go.ChangeShapes Go.WideShapes Go.ChangeAt Go.RowKit
set_option linter.unusedVariables false
set_option linter.unusedSimpArgs false

theorem size_hit : (Tryd.prog.info? 107).map (·.size) = some 4 := by kernel_rfl
theorem sizeOf_hit (w : World) : (Go.sizeOf 107).run Tryd.prog w = .ok 4 w := by kernel_rfl
set_option maxRecDepth 100000 in
set_option maxHeartbeats 8000000 in
/-- ahead of others, in place -/
theorem insert_shift (base g o c vb vc : Nat) (Q1 Q2 : List Ht) (h : Ht) (w : World) (T : TypeId) (n p : Nat) (hn : (Q1 ++ Q2).length = n) (hp : Q1.length = p) (hpn : p < n) (hnc : n < c) (hc63 : c ≤ 9223372036854775807) (hb : base ≤ g)
    (hr : QRow 107 w g o c (Q1 ++ Q2)) (hv : w.heap[vb]? = some (.cells (htCells h).toArray T (0, 0))) (hvg : vb ≠ g) (hmax : n ≤ 1048576) :
    Calls Tryd.prog 90 #[.slice (some ⟨g, o * 4, none⟩) n c, .int .i64 p, .slice (some ⟨vb, 0, none⟩) 1 vc] w (InsPost base (.slice (some ⟨g, o * 4, none⟩) n c) (Q1 ++ h :: Q2) w) := by
  obtain ⟨A, C, hg, hA, hC⟩ := hr
  have hnn : Q1.length + Q2.length = n := by rw [← List.length_append]; exact hn
  have hl2 : Q2.length = n - p := by omega
  rw [hn] at hC
  have hov : ∀ off lb cb W, W.heap[vb]? = w.heap[vb]? → W.heap[g]? = w.heap[g]? → (callFunc 103 #[.slice (some ⟨vb, 0, none⟩) 1 vc, .slice (some ⟨g, off, none⟩) lb cb]).run Tryd.prog W = .ok (.value (.bool false)) W := fun off lb cb W e1 e2 => by
    rw [run_callFunc_extern Tryd.func103 (by kernel_rfl) (by kernel_rfl) (by kernel_rfl) (e := Extern.SlicesOverlaps.overlaps #[133, 133] #[4]) (by kernel_rfl),
      Lib.run_overlaps_apart W 133 4 107 Tryd.underlying133 4 sizeOf_hit ⟨vb, 0, none⟩ ⟨g, off, none⟩ 1 vc lb cb hvg T 107 4 (A ++ flatH (Q1 ++ Q2) ++ C).length (by simp [World.shape?, e1, hv, htCells]) (by simp [World.shape?, e2, hg]) (by simp [flatH_length]; omega) (frozen_of_row W vb 0 _ _ (e1.trans hv)) (frozen_of_row W vb 4 _ _ (e1.trans hv))]
    rfl
  have hs1 := row_shift1 A C Q1 Q2 (by omega)
  rw [hA, hp, flatH_length, hl2] at hs1
  have hcp1 : ∀ (W : World) ty dc sc, W.heap[g]? = some (.cells (A ++ flatH (Q1 ++ Q2) ++ C).toArray 107 (0, 0)) → (Builtin.copy_ #[133, 133] ty #[.slice (some ⟨g, o * 4 + (p + 1) * 4, none⟩) (n - p) dc, .slice (some ⟨g, o * 4 + p * 4, none⟩) (n + 1 - p) sc]).run Tryd.prog W =
      .ok (goInt ((n - p : Nat) : Int)) (W.setRow g (A ++ flatH Q1 ++ (flatH Q2 ++ C).take 4 ++ flatH Q2 ++ C.drop 4).toArray) := fun W ty dc sc hW => by
    have hm : Nat.min (n + 1 - p) (n - p) = n - p := (Nat.min_eq_right (by omega)).trans (by omega)
    have := run_copy_rowK (P := Tryd.prog) W 4 133 133 ty 107 g (o * 4 + (p + 1) * 4) (n - p) dc ⟨g, o * 4 + p * 4, none⟩ (n + 1 - p) sc _ _ (flatH Q2) Tryd.underlying133 size_hit hW (by rw [hm, flatH_length, hl2])
      (fun j u hj => by
        rw [Addr.add_lit, cell_of_row W g _ _ _ _ hW, List.getElem?_toArray, flatH_append, ← List.append_assoc A, List.append_assoc (A ++ flatH Q1), List.getElem?_append_right (by rw [List.length_append, flatH_length]; omega)]
        rw [show o * 4 + p * 4 + j - (A ++ flatH Q1).length = j by rw [List.length_append, flatH_length]; omega]
        have hj2 := (List.getElem?_eq_some_iff.1 hj).1
        rw [List.getElem?_append_left hj2]; exact hj)
      (by rw [List.size_toArray]; simp only [List.length_append, flatH_length, hl2]; omega) (flatH_one Q2)
    rw [this, hm]
    simp only [flatH_length, hl2, hs1]
  have hs2 := row_shift2 A (C.drop 4) ((flatH Q2 ++ C).take 4) Q1 Q2 h (by rw [List.length_take, List.length_append]; omega)
  rw [hA, hp] at hs2
  have hcp2 : ∀ (W : World) ty dc, W.heap[g]? = some (.cells (A ++ flatH Q1 ++ (flatH Q2 ++ C).take 4 ++ flatH Q2 ++ C.drop 4).toArray 107 (0, 0)) → W.heap[vb]? = w.heap[vb]? → (Builtin.copy_ #[133, 133] ty #[.slice (some ⟨g, o * 4 + p * 4, none⟩) (n + 1 - p) dc, .slice (some ⟨vb, 0, none⟩) 1 vc]).run Tryd.prog W =
      .ok (goInt 1) (W.setRow g (A ++ flatH (Q1 ++ h :: Q2) ++ C.drop 4).toArray) := fun W ty dc hW e1 => by
    have hm : Nat.min 1 (n + 1 - p) = 1 := Nat.min_eq_left (by omega)
    have := run_copy_rowK (P := Tryd.prog) W 4 133 133 ty 107 g (o * 4 + p * 4) (n + 1 - p) dc ⟨vb, 0, none⟩ 1 vc _ _ (htCells h) Tryd.underlying133 size_hit hW (by rw [hm]; simp [htCells])
      (news_of (e1.trans hv))
      (by rw [List.size_toArray]; simp only [List.length_append, flatH_length, hl2, List.length_take, List.length_drop]; simp only [htCells, List.length_cons, List.length_nil]; omega) (htCells_one h)
    rw [this, hm]
    simp only [hs2]
    rfl
  have hgl := blk_lt hg
  have post : ∀ W : World, W.heap[g]? = some (.cells (A ++ flatH (Q1 ++ Q2) ++ C).toArray 107 (0, 0)) → w.grownBy W (some g) → InsPost base (.slice (some ⟨g, o * 4, none⟩) n c) (Q1 ++ h :: Q2) w (.returned (.slice (some ⟨g, o * 4, none⟩) (n + 1) c)) ((W.setRow g (A ++ flatH Q1 ++ (flatH Q2 ++ C).take 4 ++ flatH Q2 ++ C.drop 4).toArray).setRow g (A ++ flatH (Q1 ++ h :: Q2) ++ C.drop 4).toArray) := fun W hW hgr => by
    rw [setRow_setRow]
    have hl : (Q1 ++ h :: Q2).length = n + 1 := by rw [List.length_append] at hn ⊢; rw [List.length_cons]; omega
    refine ⟨_, rfl, .inr ⟨g, o, c, by rw [hl], hb, by omega, hc63, A, C.drop 4, setRow_heap _ _ _ _ _ _ hW, hA, ?_⟩, ?_, .inl rfl⟩
    · rw [List.length_drop, hl]; omega
    · rw [ownR_some (by omega)]
      exact ⟨hgr.os, hgr.tape, hgr.output, by simpa [World.setRow] using hgr.size, fun k hk hne => (setRow_other _ _ _ _ (fun e => hne (by rw [e]))).trans (hgr.block k hk hne)⟩
  obtain ⟨R1, hR1⟩ : ∃ R1, R1 = (A ++ flatH Q1 ++ (flatH Q2 ++ C).take 4 ++ flatH Q2 ++ C.drop 4).toArray := ⟨_, rfl⟩
  obtain ⟨R2, hR2⟩ : ∃ R2, R2 = (A ++ flatH (Q1 ++ h :: Q2) ++ C.drop 4).toArray := ⟨_, rfl⟩
  rw [← hR1, ← hR2] at post
  rw [← hR1] at hcp1 hcp2
  rw [← hR2] at hcp2
  have HP := Lib.hid (post w.drew hg ⟨rfl, rfl, rfl, Nat.le_refl _, fun k _ _ => rfl⟩)
  have H1 := Lib.hid (fun ty dc sc => hcp1 w.drew ty dc sc hg)
  have H2 := Lib.hid (fun ty dc => hcp2 (w.drew.setRow g R1) ty dc (setRow_heap w.drew _ _ _ _ _ hg) (setRow_other w.drew _ _ _ hvg))
  have HV := Lib.hid (fun off lb cb => hov off lb cb w rfl rfl)
  clear post hcp1 hcp2 hov hs1 hs2 hR1 hR2 hg hA hC hv hl2 hn hnn hp
  have hz2 : ¬ ((p : Int) = (n : Int)) := by omega
  have hz3 : ¬ ((c : Int) < (n : Int) + 1) := by omega
  have hw1 : IntKind.i64.wrap ((p : Int) + 1) = (p : Int) + 1 := by rw [IntKind.wrap_i64]; omega
  have hb1 : (0 : Int) ≤ (p : Int) + 1 := by omega
  have htn : ((p : Int) + 1).toNat = p + 1 := by omega
  have hb2 : ¬ (c = p + 1) := by omega
  have hb3 : (p : Int) ≤ (n : Int) + 1 := by omega
  have hb4 : ¬ (c = p) := by omega
  have hin : p ≤ n := by omega
  have hov := HV.out
  go_enter Tryd.func90, Tryd.ntmps90
  go_wp2_with (simp only [hov])
  clear hov
  go_region_law (refine step_copy_runI rfl _ _ 133 133 rfl (.slice (some ⟨g, o * 4 + (p + 1) * 4, none⟩) (n - p) (c - (p + 1))) (.slice (some ⟨g, o * 4 + p * 4, none⟩) (n + 1 - p) (c - p)) (by simp [Act.eval, Act.put]) (by simp [Act.eval, Act.put]) (H1.out 3 (c - (p + 1)) (c - p)) ?_)
  go_wp2_with fail
  rw [H2.out]
  go_wp2
  go_ret
  exact HP.out
end Go.Proofs.YtflkfkbdgekpkaaDoor

/- slices.Insert of one hit into a row of hits, ahead of others, where there is no room; the contract for all. -/
namespace Go.Proofs.YtflkfkbdgekpkaaDoor
open Go.ChangeShapes Go.WideShapes Go.ChangeAt Go.RowKit
set_option linter.unusedVariables false
set_option linter.unusedSimpArgs false

set_option maxRecDepth 100000 in
set_option maxHeartbeats 8000000 in
theorem insert_grow (base g o c vb vc : Nat) (Q1 Q2 : List Ht) (h : Ht) (w : World) (T : TypeId) (n p : Nat) (hn : (Q1 ++ Q2).length = n) (hp : Q1.length = p) (hpn : p < n) (hnc : n = c) (hb : base ≤ w.heap.size)
    (hr : QRow 107 w g o c (Q1 ++ Q2)) (hv : w.heap[vb]? = some (.cells (htCells h).toArray T (0, 0))) (hmax : n ≤ 1048576) :
    Calls Tryd.prog 90 #[.slice (some ⟨g, o * 4, none⟩) n c, .int .i64 p, .slice (some ⟨vb, 0, none⟩) 1 vc] w (InsPost base (.slice (some ⟨g, o * 4, none⟩) n c) (Q1 ++ h :: Q2) w) := by
  subst hnc
  obtain ⟨A, C, hg, hA, hC⟩ := hr
  have hnn : Q1.length + Q2.length = n := by rw [← List.length_append]; exact hn
  have hl2 : Q2.length = n - p := by omega
  obtain ⟨i0, hi0, hz0, hzs, hzb⟩ := info_parts info_hit
  have hcell : ∀ j u, (flatH (Q1 ++ Q2))[j]? = some u → w.cell? ⟨g, o * 4 + j, none⟩ = some u := fun j u hj => by
    rw [cell_of_row w g _ _ _ _ hg, List.getElem?_toArray, List.append_assoc, List.getElem?_append_right (by omega), hA, show o * 4 + j - o * 4 = j by omega, List.getElem?_append_left (List.getElem?_eq_some_iff.1 hj).1]; exact hj
  have hold : (Builtin.firstCells i0.size p (.slice (some ⟨g, o * 4, none⟩) p n)).run Tryd.prog w.drew = .ok (flatH Q1).toArray w.drew := by
    rw [hzs]
    refine run_firstCells_some w.drew 4 p ⟨g, o * 4, none⟩ p n (flatH Q1) (by rw [flatH_length, hp]) (fun j u hj => ?_)
    rw [Addr.add_lit]
    exact hcell j u (by rw [flatH_append, List.getElem?_append_left (List.getElem?_eq_some_iff.1 hj).1]; exact hj)
  obtain ⟨G, hG⟩ : ∃ G, G = grownCap w (n + 1) n 107 := ⟨_, rfl⟩
  have hGn : n + 1 ≤ G := by rw [hG]; exact grownCap_ge w _ _ _
  have hG63 : G ≤ 9223372036854775807 := by
    have := grownCap_le_maxLen w (n + 1) n 107 (by unfold maxLen; omega)
    rw [← hG] at this; unfold maxLen at this; omega
  obtain ⟨ROW, hROW⟩ : ∃ ROW : Array Value, ROW = (flatH Q1).toArray ++ Builtin.zeroCells (Value.agg #[.int .i64 0, .int .i64 0, .int .i8 0, .int .i64 0]).cells (n + 1 - p) ++ Builtin.zeroCells (Value.agg #[.int .i64 0, .int .i64 0, .int .i8 0, .int .i64 0]).cells (G - (n + 1)) := ⟨_, rfl⟩
  obtain ⟨W1, hW1⟩ : ∃ W1, w.drew.alloc (.cells ROW 107) = W1 := ⟨_, rfl⟩
  have hrz : ∀ ty, (Builtin.append_ #[133, 3] ty #[.slice (some ⟨g, o * 4, none⟩) p n, .int .i64 ((n : Int) + 1 - (p : Int))]).run Tryd.prog w = .ok (.slice (some ⟨w.heap.size, 0, none⟩) (n + 1) G) W1 := fun ty => by
    have := Lib.run_append_grow_zeros w 133 3 ty 107 i0 _ .i64 .i64 Tryd.underlying133 Tryd.underlying3 hi0 hz0 (some ⟨g, o * 4, none⟩) p n (flatH Q1) hold (n + 1 - p) (by omega) (by omega) (by omega) (by omega) (by rw [hzb]; omega) (by rw [hzb, show p + (n + 1 - p) = n + 1 by omega]; exact growslice_fits (by omega) (by omega))
    rw [show p + (n + 1 - p) = n + 1 by omega, ← hG, ← hROW, hW1] at this
    rw [show (n : Int) + 1 - (p : Int) = ((n + 1 - p : Nat) : Int) by omega]
    exact this
  obtain ⟨Z, hZ⟩ : ∃ Z : List Value, Z = (Builtin.zeroCells (Value.agg #[.int .i64 0, .int .i64 0, .int .i8 0, .int .i64 0]).cells (n + 1 - p)).toList ++ (Builtin.zeroCells (Value.agg #[.int .i64 0, .int .i64 0, .int .i8 0, .int .i64 0]).cells (G - (n + 1))).toList := ⟨_, rfl⟩
  have hZl : Z.length = (G - p) * 4 := by rw [hZ, List.length_append, zeroHits_length, zeroHits_length]; omega
  have hR0 : ROW = (flatH Q1 ++ Z).toArray := by
    rw [hROW, hZ]
    apply Array.ext'
    simp [List.append_assoc]
  have hk1 : W1.heap[w.heap.size]? = some (.cells (flatH Q1 ++ Z).toArray 107 (0, 0)) := by rw [← hW1, ← hR0]; exact heap_alloc_new w.drew _
  have hk2 : ∀ k, k < w.heap.size → W1.heap[k]? = w.heap[k]? := fun k hk => by rw [← hW1]; exact Below.heap_alloc w.drew _ k hk
  have hk3 : w.grownBy W1 (some g) := by rw [← hW1]; exact grownBy_of_drew (World.grownBy_alloc _ _ _)
  have hgl := blk_lt hg
  have hvl := blk_lt hv
  obtain ⟨L1, hL1⟩ : ∃ L1, L1 = flatH Q1 ++ htCells h ++ Z.drop 4 := ⟨_, rfl⟩
  have hs1 : (flatH Q1 ++ Z).take (p * 4) ++ htCells h ++ (flatH Q1 ++ Z).drop (p * 4 + (htCells h).length) = L1 := by
    rw [hL1]
    exact seg_write (X := flatH Q1) (Y := Z.take 4) (Z := Z.drop 4) (by rw [List.append_assoc, List.take_append_drop]) (by rw [flatH_length, hp]) (by rw [List.length_take]; simp only [htCells, List.length_cons, List.length_nil]; omega)
  have hcpA : ∀ ty dc, (Builtin.copy_ #[133, 133] ty #[.slice (some ⟨w.heap.size, p * 4, none⟩) (n + 1 - p) dc, .slice (some ⟨vb, 0, none⟩) 1 vc]).run Tryd.prog W1 = .ok (goInt 1) (W1.setRow w.heap.size L1.toArray) := fun ty dc => by
    have hm : Nat.min 1 (n + 1 - p) = 1 := Nat.min_eq_left (by omega)
    have := run_copy_rowK (P := Tryd.prog) W1 4 133 133 ty 107 w.heap.size (p * 4) (n + 1 - p) dc ⟨vb, 0, none⟩ 1 vc _ _ (htCells h) Tryd.underlying133 size_hit hk1 (by rw [hm]; simp [htCells])
      (news_of ((hk2 vb hvl).trans hv))
      (by rw [List.size_toArray]; simp only [List.length_append, flatH_length]; simp only [htCells, List.length_cons, List.length_nil]; omega) (htCells_one h)
    rw [this, hm]
    simp only [hs1]
    rfl
  obtain ⟨L2, hL2⟩ : ∃ L2, L2 = flatH Q1 ++ htCells h ++ flatH Q2 ++ (Z.drop 4).drop (flatH Q2).length := ⟨_, rfl⟩
  have hs2 : L1.take ((p + 1) * 4) ++ flatH Q2 ++ L1.drop ((p + 1) * 4 + (flatH Q2).length) = L2 := by
    rw [hL2]
    exact seg_write (X := flatH Q1 ++ htCells h) (Y := (Z.drop 4).take (flatH Q2).length) (Z := (Z.drop 4).drop (flatH Q2).length) (by rw [hL1, List.append_assoc (flatH Q1 ++ htCells h), List.take_append_drop]) (by rw [List.length_append, flatH_length, hp]; simp only [htCells, List.length_cons, List.length_nil]; omega) (by rw [List.length_take, List.length_drop, flatH_length, hl2]; omega)
  have hkA : ∀ W : World, W = (W1.setRow w.heap.size L1.toArray).drew → W.heap[w.heap.size]? = some (.cells L1.toArray 107 (0, 0)) := fun W hW => by rw [hW]; exact setRow_heap W1 _ _ _ _ _ hk1
  have hcpB : ∀ ty dc sc, (Builtin.copy_ #[133, 133] ty #[.slice (some ⟨w.heap.size, (p + 1) * 4, none⟩) (n - p) dc, .slice (some ⟨g, o * 4 + p * 4, none⟩) (n - p) sc]).run Tryd.prog (W1.setRow w.heap.size L1.toArray).drew = .ok (goInt ((n - p : Nat) : Int)) ((W1.setRow w.heap.size L1.toArray).drew.setRow w.heap.size L2.toArray) := fun ty dc sc => by
    have hm : Nat.min (n - p) (n - p) = n - p := Nat.min_self _
    have := run_copy_rowK (P := Tryd.prog) (W1.setRow w.heap.size L1.toArray).drew 4 133 133 ty 107 w.heap.size ((p + 1) * 4) (n - p) dc ⟨g, o * 4 + p * 4, none⟩ (n - p) sc _ _ (flatH Q2) Tryd.underlying133 size_hit (hkA _ rfl) (by rw [hm, flatH_length, hl2])
      (fun j u hj => by
        have hgg : (W1.setRow w.heap.size L1.toArray).drew.heap[g]? = w.heap[g]? := (setRow_other W1 _ _ _ (by omega)).trans (hk2 g hgl)
        rw [Addr.add_lit, World.cell?_of_block (w := w) hgg, show o * 4 + p * 4 + j = o * 4 + (p * 4 + j) by omega]
        refine hcell _ _ ?_
        rw [flatH_append, List.getElem?_append_right (by rw [flatH_length]; omega), flatH_length, hp, show p * 4 + j - p * 4 = j by omega]; exact hj)
      (by rw [List.size_toArray, hL1]; simp only [List.length_append, flatH_length, hl2, List.length_drop, hZl]; simp only [htCells, List.length_cons, List.length_nil]; omega) (flatH_one Q2)
    rw [this, hm]
    simp only [hs2]
  have post : InsPost base (.slice (some ⟨g, o * 4, none⟩) n n) (Q1 ++ h :: Q2) w (.returned (.slice (some ⟨w.heap.size, 0, none⟩) (n + 1) G)) ((W1.setRow w.heap.size L1.toArray).drew.setRow w.heap.size L2.toArray) := by
    have hl : (Q1 ++ h :: Q2).length = n + 1 := by rw [List.length_append, List.length_cons]; omega
    refine ⟨_, rfl, .inr ⟨w.heap.size, 0, G, by rw [hl], hb, by omega, hG63, [], (Z.drop 4).drop (flatH Q2).length, ?_, rfl, ?_⟩, ?_, .inr ⟨_, ownR_some (by omega), Nat.le_refl _⟩⟩
    · refine (setRow_heap _ _ _ _ _ _ (hkA _ rfl)).trans ?_
      rw [hL2, flatH_append, flatH_cons]
      simp [List.append_assoc]
    · rw [hl, List.length_drop, List.length_drop, hZl, flatH_length, hl2]; omega
    · refine ⟨hk3.os, hk3.tape, hk3.output, by simpa [World.setRow] using hk3.size, fun k hk hne => ?_⟩
      exact (setRow_other _ _ _ _ (by omega)).trans ((setRow_other W1 _ _ _ (by omega)).trans (hk2 k hk))
  have HP := Lib.hid post
  have HZ := Lib.hid hrz
  have HA := Lib.hid hcpA
  have HB := Lib.hid hcpB
  clear post hrz hcpA hcpB hs1 hs2 hL1 hL2 hkA hZ hZl hR0 hROW hW1 hG hk1 hk2 hk3 hcell hold hi0 hz0 hzs hzb hg hA hC hv hl2 hn hnn hp
  have hz2 : ¬ ((p : Int) = (n : Int)) := by omega
  have hz3 : (n : Int) < (n : Int) + 1 := by omega
  have hw1 : IntKind.i64.wrap ((p : Int) + 1) = (p : Int) + 1 := by rw [IntKind.wrap_i64]; omega
  have hw2 : IntKind.i64.wrap ((n : Int) + 1 - (p : Int)) = (n : Int) + 1 - (p : Int) := by rw [IntKind.wrap_i64]; omega
  have hb1 : (0 : Int) ≤ (p : Int) + 1 := by omega
  have htn : ((p : Int) + 1).toNat = p + 1 := by omega
  have hb2 : ¬ (G = p + 1) := by omega
  have hb3 : (p : Int) ≤ (n : Int) + 1 := by omega
  have hb4 : ¬ (n = p) := by omega
  have hb5 : ¬ (G = p) := by omega
  have hin : p ≤ n := by omega
  go_enter Tryd.func90, Tryd.ntmps90
  go_wp2_with (at_builtin; refine Lib.wpList_append_run _ rfl _ _ _ _ rfl _ _ rfl rfl _ _ (HZ.out _) ?_)
  rw [HA.out]
  go_wp2
  go_region_law (refine step_copy_runI rfl _ _ 133 133 rfl (.slice (some ⟨w.heap.size, (p + 1) * 4, none⟩) (n - p) (G - (p + 1))) (.slice (some ⟨g, o * 4 + p * 4, none⟩) (n - p) (n - p)) (by simp [Act.eval, Act.put]) (by simp [Act.eval, Act.put]) (HB.out 3 (G - (p + 1)) (n - p)) ?_)
  go_wp2
  go_ret
  exact HP.out
/-- Insert of one hit: whatever the row -/
theorem insert_any (base vb vc : Nat) (v : Value) (Q1 Q2 : List Ht) (h : Ht) (w : World) (T : TypeId) (p : Nat) (hp : Q1.length = p) (hbase : base ≤ w.heap.size)
    (hq : QAt 107 w base v (Q1 ++ Q2)) (hv : w.heap[vb]? = some (.cells (htCells h).toArray T (0, 0))) (hvn : ownR v ≠ some vb) (hmax : (Q1 ++ Q2).length ≤ 1048576) :
    Calls Tryd.prog 90 #[v, .int .i64 p, .slice (some ⟨vb, 0, none⟩) 1 vc] w (InsPost base v (Q1 ++ h :: Q2) w) := by
  subst hp
  rcases hq with ⟨h0, a, rfl⟩ | ⟨g, o, c, rfl, hb, h0, hc, hr⟩
  · obtain ⟨rfl, rfl⟩ := List.append_eq_nil_iff.1 h0
    refine insert_grow_end base a 0 0 vb vc [] h w T rfl rfl hbase ?_ hv (by simp)
    cases a with
    | none => exact .inl ⟨rfl, rfl⟩
    | some ad => exact .inr ⟨ad, rfl, fun j u hj => by simp [flatH] at hj⟩
  · have hvg : vb ≠ g := fun e => hvn (by rw [e]; exact ownR_some h0)
    have hle : (Q1 ++ Q2).length ≤ c := by obtain ⟨A, C, _, _, h3⟩ := hr; omega
    cases Q2 with
    | nil =>
      simp only [List.append_nil] at hr hle hmax ⊢
      by_cases hlt : Q1.length < c
      · exact insert_room_end base g o c vb vc Q1 h w T _ rfl hlt hc hb hr hv hmax
      · refine insert_grow_end base (some ⟨g, o * 4, none⟩) Q1.length c vb vc Q1 h w T rfl (by omega) hbase (.inr ⟨_, rfl, fun j u hj => ?_⟩) hv hmax
        obtain ⟨A, C, hg, hA, _⟩ := hr
        rw [Addr.add_lit, cell_of_row w g _ _ _ _ hg, List.getElem?_toArray, List.append_assoc, List.getElem?_append_right (by omega), hA, show o * 4 + j - o * 4 = j by omega, List.getElem?_append_left (List.getElem?_eq_some_iff.1 hj).1]; exact hj
    | cons x Q2 =>
      have hpn : Q1.length < (Q1 ++ x :: Q2).length := by rw [List.length_append, List.length_cons]; omega
      by_cases hlt : (Q1 ++ x :: Q2).length < c
      · exact insert_shift base g o c vb vc Q1 (x :: Q2) h w T _ _ rfl rfl hpn hlt hc hb hr hv hvg hmax
      · exact insert_grow base g o c vb vc Q1 (x :: Q2) h w T _ _ rfl rfl hpn (by omega) hbase hr hv hmax
end Go.Proofs.YtflkfkbdgekpkaaDoor
