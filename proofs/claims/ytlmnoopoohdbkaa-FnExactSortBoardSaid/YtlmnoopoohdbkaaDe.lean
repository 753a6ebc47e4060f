/- slices.Delete of one piece. -/
import Derived.Test.YtlmnoopoohdbkaaG4
import Derived.Deep.RegionLaw
import Derived.Shelf.RegionOpenPlain
import Derived.Deep.AppendSrc
namespace Go.Proofs.Ytlmnoopoohdbkaa
open Go.ChangeShapes Go.WideShapes Go.ChangeAt Go.RowKit Go.Deep
set_option linter.unusedVariables false
set_option linter.unusedSimpArgs false

/-- an append in place, told by the whole block -/
theorem run_append_room_rowD {P : Program} (w : World) (t tx ty e : TypeId) (i : TypeInfo) (ht : P.underlying t = some (.slice e)) (hi : P.info? e = some i) (g off sLen sCap : Nat) (x : Value) (n : Nat) (news : List Value) (hs : Src P i.size tx x n news w)
    (hroom : sLen + n ≤ sCap) (cur : Array Value) (T : TypeId) (hg : w.heap[g]? = some (.cells cur T (0, 0))) (hfit : off + sLen * i.size + news.length ≤ cur.size) :
    (Builtin.append_ #[t, tx] ty #[.slice (some ⟨g, off, none⟩) sLen sCap, x]).run P w = .ok (.slice (some ⟨g, off, none⟩) (sLen + n) sCap) (w.setRow g (cur.toList.take (off + sLen * i.size) ++ news ++ cur.toList.drop (off + sLen * i.size + news.length)).toArray) := by
  have hst := run_storeCells_at P g (off + sLen * i.size) T news 0 cur w hg (by simpa using hfit) hs.one
  simp only [Nat.add_zero] at hst
  rcases hs.kind with ⟨e', hk⟩ | hk <;> simp [Builtin.append_, run_underlying ht, run_underlying hk, sizeOf, typeInfo, hi, hs.len, hroom, hs.cells, Addr.add_lit, hst]

/-- clear of part of a row, told by the whole block -/
theorem run_clear_row {P : Program} (w : World) (t e ty : TypeId) (z : Value) (zc : List Value) (ht : P.underlying t = some (.slice e)) (hv : ∀ w, (zeroValue e).run P w = .ok z w) (n : Nat) (hz : (Builtin.zeroCells z.cells n).toList = zc) (hn : 0 < n) (g o c : Nat)
    (cur : Array Value) (T : TypeId) (hg : w.heap[g]? = some (.cells cur T (0, 0))) (hfit : o + zc.length ≤ cur.size) (h1 : ∀ v ∈ zc, v.oneCell' = true) :
    (Builtin.clear_ #[t] ty #[.slice (some ⟨g, o, none⟩) n c]).run P w = .ok (.tuple #[]) (w.setRow g (cur.toList.take o ++ zc ++ cur.toList.drop (o + zc.length)).toArray) := by
  have hst := run_storeCells_at P g o T zc 0 cur w hg (by simpa using hfit) h1
  simp only [Nat.add_zero] at hst
  obtain ⟨m, rfl⟩ : ∃ m, n = m + 1 := ⟨n - 1, by omega⟩
  simp [Builtin.clear_, run_underlying ht, hv, hz, hst]
/-- an append in a region that draws, by its run -/
theorem step_append_run {P : Program} {ops : Array Oper} {o : Oper} {a : Act} {w : World} {K : Act → World → Prop} {Q : Exit → Act → World → Prop} {E : Prop}
    (hg : o.guard = none) (s x : Operand) (t : TypeId) (hop : o.op = Op.call { callee := Callee.builtin Builtin.append, args := #[s, x], argTypes := #[t, t] })
    (vs vx v : Value) (w' : World) (hs : a.eval s = vs) (hx : a.eval x = vx) (hrun : ∀ ty, (Builtin.append_ #[t, t] ty #[vs, vx]).run P w = .ok v w')
    (hK : K (a.put o.dst v) w') :
    if Region.wanted o (yielded ops a.tmps) = true then Oper.wp P o a w K Q else E := by
  have hw : Region.wanted o (yielded ops a.tmps) = true := by simp [Region.wanted, hg]
  rw [if_pos hw]
  unfold Oper.wp
  simp [execOp, hop, resolve, invoke, builtin, hs, hx, hrun, Result.andThen]
  exact hK
/-- the row behind the append, and behind the clear -/
theorem del_rows (l : List Pc) (cur : List Value) (n i c : Nat) (hn : l.length = n) (hi : i < n) (hc : cur.length = c * 5) (hnc : n ≤ c) (ht : cur.take (n * 5) = flatL l) (z : List Value) (hz : z.length = 5) :
    (cur.take (i * 5) ++ flatL (l.drop (i + 1)) ++ cur.drop (i * 5 + (flatL (l.drop (i + 1))).length)).length = c * 5 ∧
    (((cur.take (i * 5) ++ flatL (l.drop (i + 1)) ++ cur.drop (i * 5 + (flatL (l.drop (i + 1))).length)).take ((n - 1) * 5) ++ z ++ (cur.take (i * 5) ++ flatL (l.drop (i + 1)) ++ cur.drop (i * 5 + (flatL (l.drop (i + 1))).length)).drop ((n - 1) * 5 + z.length)).length = c * 5) ∧
    (((cur.take (i * 5) ++ flatL (l.drop (i + 1)) ++ cur.drop (i * 5 + (flatL (l.drop (i + 1))).length)).take ((n - 1) * 5) ++ z ++ (cur.take (i * 5) ++ flatL (l.drop (i + 1)) ++ cur.drop (i * 5 + (flatL (l.drop (i + 1))).length)).drop ((n - 1) * 5 + z.length)).take ((n - 1) * 5) = flatL (l.eraseIdx i)) := by
  have hX : cur.take (i * 5) = flatL (l.take i) := by
    have h1 : cur.take (i * 5) = (cur.take (n * 5)).take (i * 5) := by rw [List.take_take, Nat.min_eq_left (by omega)]
    have h2 : flatL l = flatL (l.take i) ++ flatL (l.drop i) := by rw [← flatL_append, List.take_append_drop]
    rw [h1, ht, h2, List.take_left' (by rw [flatL_length, List.length_take]; omega)]
  have hY : (flatL (l.drop (i + 1))).length = (n - 1 - i) * 5 := by rw [flatL_length, List.length_drop]; omega
  have hXl : (flatL (l.take i)).length = i * 5 := by rw [flatL_length, List.length_take]; omega
  have hE : flatL (l.eraseIdx i) = flatL (l.take i) ++ flatL (l.drop (i + 1)) := by rw [List.eraseIdx_eq_take_drop_succ, flatL_append]
  have hZ : (cur.drop (i * 5 + (n - 1 - i) * 5)).length = c * 5 - (n - 1) * 5 := by rw [List.length_drop, hc]; omega
  rw [hX, hY, hE]
  generalize cur.drop (i * 5 + (n - 1 - i) * 5) = D at hZ ⊢
  generalize flatL (l.take i) = X at hXl ⊢
  generalize flatL (l.drop (i + 1)) = Y at hY ⊢
  have hT : (X ++ Y ++ D).take ((n - 1) * 5) = X ++ Y := List.take_left' (by rw [List.length_append]; omega)
  rw [hT]
  refine ⟨by simp only [List.length_append]; omega, by simp only [List.length_append, List.length_drop]; omega, ?_⟩
  rw [List.append_assoc, List.take_left' (by rw [List.length_append]; omega)]
def delZ : List Value := [.int .i8 0, .int .i8 0, .int .i8 0, .int .i8 0, .int .i8 0]
theorem delZ_len : delZ.length = 5 := rfl
theorem delZ_one : ∀ u ∈ delZ, u.oneCell' = true := by
  intro u hu
  simp [delZ] at hu
  subst hu; rfl
theorem delZ_eq : (Builtin.zeroCells (Value.agg #[.int .i8 0, .int .i8 0, .int .i8 0, .int .i8 0, .int .i8 0]).cells 1).toList = delZ := by
  simp [Builtin.zeroCells, Value.cells, delZ]
  rfl
set_option maxRecDepth 1000000 in
set_option maxHeartbeats 4000000 in
theorem delPc_any (base g i n c : Nat) (l : List Pc) (w : World) (hn : l.length = n) (hi : i < n) (hmax : n ≤ 1048576) (hown : w.ownsRow base 66 5 (.slice (some ⟨g, 0, none⟩) n c) n (flatL l)) :
    Calls Try.prog 53 #[.slice (some ⟨g, 0, none⟩) n c, .int .i64 i, .int .i64 (i + 1)] w fun e w' => e = .returned (.slice (some ⟨g, 0, none⟩) (n - 1) c) ∧ w'.ownsRow base 66 5 (.slice (some ⟨g, 0, none⟩) (n - 1) c) (n - 1) (flatL (l.eraseIdx i)) ∧ ∃ R1 R2, w' = (w.drew.setRow g R1).setRow g R2 := by
  obtain ⟨i0, hi0, hz0, hs0, hb0⟩ := info_parts info_pc
  obtain ⟨_, ⟨h, _⟩ | ⟨g', c', cur, hv, hbg, hg, hnc, hcm, hcs, htk⟩⟩ := hown
  · simp at h
  obtain ⟨rfl, rfl⟩ : g' = g ∧ c' = c := by simp at hv; exact ⟨hv.1.symm, hv.2.symm⟩
  obtain ⟨q1, q2, q3⟩ := del_rows l cur.toList n i c' hn hi (by simpa using hcs) hnc htk delZ delZ_len
  obtain ⟨Y, hY⟩ : ∃ Y, Y = flatL (l.drop (i + 1)) := ⟨_, rfl⟩
  have hYl : Y.length = (n - (i + 1)) * 5 := by rw [hY, flatL_length, List.length_drop]; omega
  have hY1 : ∀ u ∈ Y, u.oneCell' = true := by rw [hY]; exact flatL_one _
  rw [← hY] at q1 q2 q3
  have hsrcY : ∀ j u, Y[j]? = some u → w.drew.cell? ⟨g', (i + 1) * 5 + j, none⟩ = some u := by
    intro j u hu
    have hj : j < (n - (i + 1)) * 5 := by rw [← hYl]; exact (List.getElem?_eq_some_iff.1 hu).1
    have h2 : cur.toList[(i + 1) * 5 + j]? = some u := by
      have h3 : (cur.toList.take (n * 5))[(i + 1) * 5 + j]? = some u := by
        rw [htk, show flatL l = flatL (l.take (i + 1)) ++ Y by rw [hY, ← flatL_append, List.take_append_drop], List.getElem?_append_right (by rw [flatL_length, List.length_take]; omega), flatL_length, List.length_take, show (i + 1) * 5 + j - min (i + 1) l.length * 5 = j by omega]
        exact hu
      rwa [List.getElem?_take_of_lt (by omega)] at h3
    have h5 : cur[(i + 1) * 5 + j]? = some u := by simpa using h2
    rw [cell_of_row w.drew g' _ _ _ _ hg]
    exact h5
  obtain ⟨A, hA, hsrc⟩ : ∃ A : Addr, (if c' = i + 1 then some (⟨g', 0, none⟩ : Addr) else some ⟨g', (i + 1) * 5, none⟩) = some A ∧ Hid (∀ j u, Y[j]? = some u → w.drew.cell? (A.add j) = some u) := by
    by_cases h : c' = i + 1
    · refine ⟨⟨g', 0, none⟩, by simp [h], fun j u hu => ?_⟩
      have h0 : Y.length = 0 := by rw [hYl]; omega
      rw [List.length_eq_zero_iff.1 h0] at hu
      simp at hu
    · exact ⟨⟨g', (i + 1) * 5, none⟩, by simp [h], fun j u hu => by rw [Addr.add_lit]; exact hsrcY j u hu⟩
  have hSrc : Src Try.prog i0.size 28 (.slice (some A) (n - (i + 1)) (c' - (i + 1))) (n - (i + 1)) Y w.drew := by
    rw [hs0]; exact Src.ofSlice w.drew Try.underlying28 A _ _ _ hYl hsrc.out hY1
  have hrun := fun ty => run_append_room_rowD w.drew 28 28 ty 66 i0 Try.underlying28 hi0 g' 0 i c' _ _ Y hSrc (by omega) cur 66 hg (by rw [hs0, hYl, hcs]; omega)
  rw [hs0] at hrun
  simp only [Nat.zero_add] at hrun
  obtain ⟨m, hm⟩ : ∃ m, m = n - 1 := ⟨_, rfl⟩
  rw [show i + (n - (i + 1)) = m by omega] at hrun
  rw [← hm] at q2 q3 ⊢
  obtain ⟨R1, hR1⟩ : ∃ R1 : Array Value, R1 = (cur.toList.take (i * 5) ++ Y ++ cur.toList.drop (i * 5 + Y.length)).toArray := ⟨_, rfl⟩
  rw [← hR1] at hrun
  have e1 : R1.toList = cur.toList.take (i * 5) ++ Y ++ cur.toList.drop (i * 5 + Y.length) := by rw [hR1]
  rw [← e1] at q1 q2 q3
  obtain ⟨W1, hW1⟩ : ∃ W1, W1 = w.drew.setRow g' R1 := ⟨_, rfl⟩
  have hg1 : W1.heap[g']? = some (.cells R1 66 (0, 0)) := by rw [hW1]; exact setRow_heap _ _ _ _ _ _ hg
  rw [← hW1] at hrun
  have hnm : n - m = 1 := by omega
  have hsz : R1.size = c' * 5 := by simpa using q1
  have hcl := fun ty => run_clear_row (P := Try.prog) W1 28 66 ty (.agg #[.int .i8 0, .int .i8 0, .int .i8 0, .int .i8 0, .int .i8 0]) delZ Try.underlying28 (fun w => by simp [zeroValue, typeInfo, hi0, hz0]) (n - m) (by rw [hnm]; exact delZ_eq) (by omega) g' (m * 5) (c' - m) R1 66 hg1 (by rw [hsz, delZ_len]; omega) delZ_one
  obtain ⟨R2, hR2⟩ : ∃ R2 : Array Value, R2 = (R1.toList.take (m * 5) ++ delZ ++ R1.toList.drop (m * 5 + delZ.length)).toArray := ⟨_, rfl⟩
  rw [← hR2] at hcl
  have e2 : R2.toList = R1.toList.take (m * 5) ++ delZ ++ R1.toList.drop (m * 5 + delZ.length) := by rw [hR2]
  rw [← e2] at q2 q3
  have post : (W1.setRow g' R2).ownsRow base 66 5 (.slice (some ⟨g', 0, none⟩) m c') m (flatL (l.eraseIdx i)) ∧ ∃ A1 A2, W1.setRow g' R2 = (w.drew.setRow g' A1).setRow g' A2 :=
    ⟨⟨by rw [flatL_length, List.length_eraseIdx_of_lt (by omega)]; omega, .inr ⟨g', c', R2, rfl, hbg, setRow_heap _ _ _ _ _ _ hg1, by omega, hcm, by simpa using q2, q3⟩⟩, R1, R2, by rw [hW1]⟩
  have HP := Lib.hid post
  have HR := Lib.hid hrun
  have HC := Lib.hid hcl
  have hA2 := hA
  have hc63 : c' ≤ 9223372036854775807 := by unfold maxLen at hcm; omega
  have hic : i ≤ c' := by omega
  have hwr : IntKind.i64.wrap ((i : Int) + 1) = (i : Int) + 1 := by rw [IntKind.wrap_i64]; omega
  have hp0 : (0 : Int) ≤ (i : Int) + 1 := by omega
  have hp1 : (i : Int) + 1 ≤ (n : Int) := by omega
  have hp2 : ((i : Int) + 1).toNat = i + 1 := by omega
  have hp3 : m ≤ n := by omega
  have hne : ¬ ((i : Int) = (i : Int) + 1) := by omega
  have hii : i ≤ i + 1 := by omega
  have hin : i + 1 ≤ n := by omega
  have hx1 : ¬ c' = m := by omega
  have hx2 : ¬ m = c' := by omega
  clear hm hnm post hrun hcl hR1 hR2 e1 e2 q1 q2 q3 hW1 hg1 hsz hSrc hsrc hsrcY hY hYl hY1 hA htk hcs hcm hg hbg hi0 hz0 hs0 hb0 hv hn
  go_enter Try.func53, Try.ntmps53
  go_wp2_with fail
  go_region_law (refine step_append_run rfl (.tmp 22) (.tmp 25) 28 rfl (.slice (some ⟨g', 0, none⟩) i c') (.slice (some A) (n - (i + 1)) (c' - (i + 1))) _ _ (by simp [Act.eval, Act.put]) (by simp [Act.eval, Act.put]) HR.out ?_)
  have hC2 := HC.out
  go_wp2
  go_ret
  exact ⟨rfl, HP.out⟩
end Go.Proofs.Ytlmnoopoohdbkaa
