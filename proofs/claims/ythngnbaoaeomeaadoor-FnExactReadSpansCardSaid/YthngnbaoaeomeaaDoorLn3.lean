/- strings.SplitSeq at a separator of one byte: its closure's contract. -/
import Derived.Test.YthngnbaoaeomeaaDoorLn1
import Derived.StillTailTactics
namespace Go.Proofs.YthngnbaoaeomeaaDoor
open Go.ChangeShapes Go.WideShapes Go.ChangeAt Go.RowKit Go.Shelf Go.Joins Go.Deep
set_option linter.unusedVariables false
set_option linter.unusedSimpArgs false
attribute [local go_sem] Oper.semAt_some

theorem sl_toS {l : List UInt8} {b : Nat} (hb : b ≤ l.length) (W : World) : (Instr.slice 9 (.string (bsT l)) none (some (.int .i64 (b : Int))) none).run Tryd.prog W = .ok (.string (bsT (l.take b))) W := by
  have h := ext_bsT l 0 b
  have hs : (bsT l).size = l.length := bsT_size l
  simp only [List.drop_zero, Nat.sub_zero] at h
  simp [Instr.slice, go_sem, hs, h, hb]
def lenAtS (W : World) (B : Nat) : Nat := match W.heap[B]? with
  | some (Obj.cells cs _ _) => (match cs[0]? with
    | some (Value.string s) => s.size
    | _ => 0)
  | _ => 0
theorem lenAtS_of {W : World} {B : Nat} {r : List UInt8} (h : W.heap[B]? = some (.cells #[.string (bsT r)] 9 (0, 0))) : lenAtS W B = r.length := by
  unfold lenAtS
  rw [h]
  simp [bsT_size]
/-- what stands behind k words -/
def wdR (c : UInt8) (l : List UInt8) (k : Nat) (r : List UInt8) : Prop := spl c r = (spl c l).drop k ∧ r.length ≤ l.length
def wdX (c : UInt8) (l : List UInt8) (k : Nat) : List UInt8 := (spl c l).getD k []
theorem wdX_get {c : UInt8} {l : List UInt8} {k : Nat} (h : k < (spl c l).length) : (spl c l)[k]? = some (wdX c l k) := by
  unfold wdX; rw [List.getD_eq_getElem?_getD, List.getElem?_eq_getElem h]; rfl
theorem wdX_short (c : UInt8) (l : List UInt8) (k : Nat) : (wdX c l k).length ≤ l.length := by
  unfold wdX
  rw [List.getD_eq_getElem?_getD]
  cases h : (spl c l)[k]? with
  | none => simp
  | some x => exact spl_short c l x (List.mem_of_getElem? h)
theorem wdR_zero (c : UInt8) (l : List UInt8) : wdR c l 0 l := ⟨by simp, Nat.le_refl _⟩
theorem wdR_lt {c : UInt8} {l r : List UInt8} {k : Nat} (h : wdR c l k r) : k < (spl c l).length := by
  by_cases hk : k < (spl c l).length
  · exact hk
  · have h1 := h.1
    rw [List.drop_of_length_le (by omega)] at h1
    obtain ⟨x, t, h2⟩ := spl_some c r
    rw [h1] at h2; cases h2
theorem wdR_head {c : UInt8} {l r x : List UInt8} {t : List (List UInt8)} {k : Nat} (h : wdR c l k r) (hr : spl c r = x :: t) : wdX c l k = x ∧ (spl c l).drop (k + 1) = t := by
  rw [h.1] at hr
  refine ⟨?_, ?_⟩
  · unfold wdX
    have := congrArg (fun z => z[0]?) hr
    simp only [List.getElem?_drop, Nat.add_zero, List.getElem?_cons_zero] at this
    rw [List.getD_eq_getElem?_getD, this]; rfl
  · have := congrArg List.tail hr
    rw [List.tail_cons, List.tail_drop] at this
    exact this
theorem wdR_step {c : UInt8} {l r x t : List UInt8} {k : Nat} (h : wdR c l k r) (hr : r = x ++ c :: t) (hx : c ∉ x) : wdX c l k = x ∧ wdR c l (k + 1) t := by
  obtain ⟨h1, h2⟩ := wdR_head h (by rw [hr, spl_app t hx])
  refine ⟨h1, h2.symm, ?_⟩
  have h3 := h.2
  rw [hr] at h3
  simp only [List.length_append, List.length_cons] at h3
  omega
theorem wdR_last {c : UInt8} {l r : List UInt8} {k : Nat} (h : wdR c l k r) (hx : c ∉ r) : wdX c l k = r ∧ (spl c l).length = k + 1 := by
  obtain ⟨h1, h2⟩ := wdR_head h (spl_word hx)
  refine ⟨h1, ?_⟩
  have := wdR_lt h
  have h3 := congrArg List.length h2
  rw [List.length_drop, List.length_nil] at h3
  omega
theorem idxc_some {c : UInt8} {r : List UInt8} {i : Nat} (h : Lib.indexByte r c = (i : Int)) : ∃ x t, r = x ++ c :: t ∧ c ∉ x ∧ x.length = i := by
  obtain ⟨h1, h2⟩ := Lib.indexByte_some h
  have hi : i < r.length := (List.getElem?_eq_some_iff.1 h1).1
  refine ⟨r.take i, r.drop (i + 1), ?_, ?_, by rw [List.length_take]; omega⟩
  · have e : r.drop i = c :: r.drop (i + 1) := by
      rw [List.drop_eq_getElem_cons hi, (List.getElem?_eq_some_iff.1 h1).2]
    rw [← e, List.take_append_drop]
  · intro hm
    obtain ⟨j, hj, e⟩ := List.mem_iff_getElem.1 hm
    rw [List.length_take] at hj
    rw [List.getElem_take] at e
    exact h2 j (by omega) (by rw [List.getElem?_eq_getElem (by omega), e])
theorem idxc_none {c : UInt8} {r : List UInt8} (h : Lib.indexByte r c = -1) : c ∉ r := by
  intro hm
  obtain ⟨j, hj, e⟩ := List.mem_iff_getElem.1 hm
  exact Lib.indexByte_none h j (by rw [List.getElem?_eq_getElem hj, e])
theorem enters_splitSeq : ∀ args w, (callFunc 110 args).run Tryd.prog w = .ok (.enter 110 args) w := enters_of Tryd.func110 (by kernel_rfl) rfl
theorem splitSeq0_any (l : List UInt8) (c : UInt8) (w : World) :
    Calls Tryd.prog 98 #[.string (bsT l), .string ⟨#[c]⟩, .int .i64 0] w fun e w' => e = .returned (.func (.func 110) #[] #[.pointer (some ⟨w.heap.size + 1, 0, none⟩), .pointer (some ⟨w.heap.size, 0, none⟩), .pointer (some ⟨w.heap.size + 1 + 1, 0, none⟩)]) ∧ w' = ((w.alloc (.cells #[.string (bsT l)] 9)).alloc (.cells #[.string ⟨#[c]⟩] 9)).alloc (.cells #[.int .i64 0] 3) := by
  go_enter Tryd.func98, Tryd.ntmps98
  go_wp2
  go_ret
  exact ⟨rfl, rfl⟩
theorem splitSeq_any (l : List UInt8) (c : UInt8) (w : World) :
    Calls Tryd.prog 80 #[.string (bsT l), .string ⟨#[c]⟩] w fun e w' => e = .returned (.func (.func 110) #[] #[.pointer (some ⟨w.heap.size + 1, 0, none⟩), .pointer (some ⟨w.heap.size, 0, none⟩), .pointer (some ⟨w.heap.size + 1 + 1, 0, none⟩)]) ∧ w' = ((w.alloc (.cells #[.string (bsT l)] 9)).alloc (.cells #[.string ⟨#[c]⟩] 9)).alloc (.cells #[.int .i64 0] 3) := by
  go_enter Tryd.func80, Tryd.ntmps80
  go_wp2_with fail
  refine (splitSeq0_any l c w).mono ?_
  rintro e w' ⟨rfl, rfl⟩
  go_wp2
  go_ret
  exact ⟨rfl, rfl⟩
set_option maxRecDepth 100000 in
set_option maxHeartbeats 8000000 in
theorem splitSeq1_box (n' : Nat) (hn' : 1 ≤ n') (B : Nat) (l : List UInt8) (c : UInt8) (hl : l.length ≤ 2000000) (w : World) (hb : w.heap[B]? = some (.cells #[.string (bsT l)] 9 (0, 0))) (hb1 : w.heap[B + 1]? = some (.cells #[.string ⟨#[c]⟩] 9 (0, 0))) (hb2 : w.heap[B + 1 + 1]? = some (.cells #[.int .i64 0] 3 (0, 0))) :
    IterBoxS Fence.wide n' Tryd.prog 110 #[.pointer (some ⟨B + 1, 0, none⟩), .pointer (some ⟨B, 0, none⟩), .pointer (some ⟨B + 1 + 1, 0, none⟩)] (fun x : List UInt8 => #[.string (bsT x)]) (fun j => B ≤ j ∧ j ≤ B + 1 + 1) B (wdX c l) (spl c l).length w := by
  intro lk J Jx Wd hWd hJ hY h0
  have HB0 := Lib.hid ((hWd B (by omega)).trans hb)
  have H1 := Lib.hid ((hWd (B + 1) (by omega)).trans hb1)
  have H2 := Lib.hid ((hWd (B + 1 + 1) (by omega)).trans hb2)
  have HJ := Lib.hid hJ
  have HJ0 := Lib.hid h0
  have HR0 := Lib.hid (wdR_zero c l)
  have p0 : Wd.cell? ⟨B, 0, none⟩ = some (.string (bsT l)) := cell_of_row _ _ 0 _ _ _ HB0.out
  have p1 : Wd.cell? ⟨B + 1, 0, none⟩ = some (.string ⟨#[c]⟩) := cell_of_row _ _ 0 _ _ _ H1.out
  have q0 := blk_lt HB0.out
  have q1 := blk_lt H1.out
  have hsz1 : (⟨#[c]⟩ : ByteArray).size = 1 := rfl
  clear hWd hb hb1 hb2 hJ h0
  refine callsIn_of_wp Tryd.func110 rfl trivial ?_ rfl
  simp only [Tryd.ntmps110, List.size_toArray, List.length_cons, List.length_nil, Nat.reduceAdd, Nat.reduceSub, Array.replicate_succ, Array.replicate_zero, List.push_toArray, List.append_toArray, List.nil_append, List.cons_append]
  gi_wp2
  gi_loopw [7, 8] (fun _ _ wr => ∃ (k : Nat) (r : List UInt8), Hid (wdR c l k r) ∧ Hid (J k wr) ∧ Hid (wr.heap[B]? = some (.cells #[.string (bsT r)] 9 (0, 0))) ∧ Hid (wr.heap[B + 1]? = some (.cells #[.string ⟨#[c]⟩] 9 (0, 0))) ∧ Hid (wr.heap[B + 1 + 1]? = some (.cells #[.int .i64 0] 3 (0, 0)))) (fun _ _ wr => lenAtS wr B)
  case atStart => exact ⟨0, l, HR0, HJ0, HB0, H1, H2⟩
  case round =>
    clear HB0 HJ0 HR0 H1 H2 p0 p1 q0 q1
    obtain ⟨k, r, HR, HJk, HB, H1, H2⟩ := hrel
    have c0 : wr.cell? ⟨B, 0, none⟩ = some (.string (bsT r)) := cell_of_row _ _ 0 _ _ _ HB.out
    have c1 : wr.cell? ⟨B + 1, 0, none⟩ = some (.string ⟨#[c]⟩) := cell_of_row _ _ 0 _ _ _ H1.out
    have c2 : wr.cell? ⟨B + 1 + 1, 0, none⟩ = some (.int .i64 0) := cell_of_row _ _ 0 _ _ _ H2.out
    have lB := blk_lt HB.out
    have lB1 := blk_lt H1.out
    have lB2 := blk_lt H2.out
    have hr2 := HR.out.2
    have HL := Lib.hid (lenAtS_of HB.out)
    obtain ⟨S, hS⟩ : ∃ S, bsT r = S := ⟨_, rfl⟩
    have hsz : S.size = r.length := by rw [← hS, bsT_size]
    obtain ⟨iv, hiv⟩ : ∃ iv, Lib.indexByte r c = iv := ⟨_, rfl⟩
    have hge : -1 ≤ iv := by rw [← hiv]; exact Lib.indexByte_ge _ _
    have HIX := Lib.hid (fun W => (by have h := strings_Index_one (bsT r) c W; rw [bsT_list] at h; rw [← hS, ← hiv]; exact h.mono fun _ _ ⟨a, b⟩ => ⟨a, b.symm⟩ : Calls Tryd.prog 103 #[.string S, .string ⟨#[c]⟩] W fun e w' => e = .returned (.int .i64 iv) ∧ W = w'))
    have HIV := Lib.hid hiv
    have HS := Lib.hid hS
    rw [hS] at c0
    clear hS hiv
    have hkl := wdR_lt HR.out
    gi_wp2_with fail
    refine ⟨trivial, (callsIn_wide.2 (HIX.out _)).mono ?_⟩
    rintro e w2 ⟨rfl, h⟩
    obtain rfl : wr = w2 := h
    clear HIX
    by_cases hn : iv = -1
    · obtain ⟨h1, h2⟩ := wdR_last HR.out (idxc_none (HIV.out.trans hn))
      obtain ⟨fn, tmps, assign, body, hy, hRd⟩ := hY k wr HJk.out hkl
      rw [h1, HS.out] at hy
      have e2 : iv < (0 : Int) := by omega
      have e3 : decide (iv < (0 : Int)) = true := by simpa using e2
      have HN := Lib.hid h2
      clear h1 h2 hn hge
      gi_wp2
      refine hRd.mono ?_
      rintro e W3 (⟨rfl, hJ3, hB3⟩ | ⟨rfl, hJx3⟩)
      · have J3 := Lib.hid (show J (spl c l).length W3 by rw [HN.out]; exact hJ3)
        clear hJ3 hB3 hy
        gi_wp2
        go_end0
        exact ⟨⟨_, rfl⟩, .inl J3.out⟩
      · clear hy
        gi_wp2
        go_end0
        exact ⟨⟨_, rfl⟩, .inr hJx3⟩
    · obtain ⟨i, rfl⟩ : ∃ i : Nat, iv = i := ⟨iv.toNat, by omega⟩
      obtain ⟨x, t, hx1, hx2, hx3⟩ := idxc_some HIV.out
      obtain ⟨h1, h2⟩ := wdR_step HR.out hx1 hx2
      have RN := Lib.hid (show Hid (wdR c l (k + 1) t) from Lib.hid h2)
      have hil : i + 1 ≤ r.length := by rw [hx1, ← hx3]; simp
      have htl : t.length < r.length := by rw [hx1]; simp; omega
      have hto := fun W => sl_toS (l := r) (b := i) (by omega) W
      have hfr := fun W => sl_from (l := r) (a := i + 1) hil W
      have et : r.take i = x := by rw [hx1, ← hx3]; simp
      have ed : r.drop (i + 1) = t := by rw [hx1, ← hx3, List.drop_append]; simp
      have ei : ((i + 1 : Nat) : Int) = (i : Int) + 1 := by omega
      rw [et, HS.out] at hto
      rw [ed, HS.out, ei] at hfr
      have w0 : IntKind.i64.wrap (i : Int) = (i : Int) := IntWalk.i64_in _ (by omega)
      have w1 : IntKind.i64.wrap ((i : Int) + 1) = (i : Int) + 1 := IntWalk.i64_in _ (by omega)
      obtain ⟨fn, tmps, assign, body, hy, hRd⟩ := hY k wr HJk.out hkl
      rw [h1] at hy
      have e2 : ¬ (i : Int) < 0 := by omega
      have e3 : decide ((i : Int) < 0) = false := by simp
      clear h1 h2 hn hge hx1 hx2 hx3 et ed
      gi_wp2
      refine hRd.mono ?_
      rintro e W3 (⟨rfl, hJ3, hB3⟩ | ⟨rfl, hJx3⟩)
      · have B3 := Lib.hid ((hB3 B (by omega)).trans HB.out)
        have B31 := Lib.hid ((hB3 (B + 1) (by omega)).trans H1.out)
        have B32 := Lib.hid ((hB3 (B + 1 + 1) (by omega)).trans H2.out)
        have d0 : W3.cell? ⟨B, 0, none⟩ = some (.string S) := by rw [← HS.out]; exact cell_of_row _ _ 0 _ _ _ B3.out
        have d1 : W3.cell? ⟨B + 1, 0, none⟩ = some (.string ⟨#[c]⟩) := cell_of_row _ _ 0 _ _ _ B31.out
        have f0 : W3.frozen? ⟨B, 0, none⟩ = false := frozen_of_row _ _ 0 _ _ B3.out
        have l30 := blk_lt B3.out
        have l31 := blk_lt B31.out
        have JN := Lib.hid (HJ.out (k + 1) W3 (W3.setCell ⟨B, 0, none⟩ (.string (bsT t))) hJ3 (grownBy_setCell' W3 B _))
        have BN := Lib.hid (show (W3.setCell ⟨B, 0, none⟩ (.string (bsT t))).heap[B]? = some (.cells #[.string (bsT t)] 9 (0, 0)) from blk_set_same' B3.out)
        have BN1 := Lib.hid (show (W3.setCell ⟨B, 0, none⟩ (.string (bsT t))).heap[B + 1]? = some (.cells #[.string ⟨#[c]⟩] 9 (0, 0)) from (Below.heap_setCell _ _ _ _ (by show B + 1 ≠ B; omega)).trans B31.out)
        have BN2 := Lib.hid (show (W3.setCell ⟨B, 0, none⟩ (.string (bsT t))).heap[B + 1 + 1]? = some (.cells #[.int .i64 0] 3 (0, 0)) from (Below.heap_setCell _ _ _ _ (by show B + 1 + 1 ≠ B; omega)).trans B32.out)
        have hm := lenAtS_of BN.out
        clear hJ3 hB3 hy
        gi_wp2
        go_roundw
        case rel => exact ⟨k + 1, t, RN.out, JN, BN, BN1, BN2⟩
        case measure => rw [hm, HL.out]; exact htl
      · clear hy
        gi_wp2
        refine bodyPost_ret (results_none rfl _ _ _) rfl ?_
        exact ⟨⟨_, rfl⟩, .inr hJx3⟩
end Go.Proofs.YthngnbaoaeomeaaDoor
