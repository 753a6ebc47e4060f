/- strings.Lines: its closure's contract. -/
import Derived.Test.YthngnbaoaeomeaaDoorLn1
import Derived.Test.YthngnbaoaeomeaaDoorTrI
import Derived.StillTailTactics
namespace Go.Proofs.YthngnbaoaeomeaaDoor
open Go.ChangeShapes Go.WideShapes Go.ChangeAt Go.RowKit Go.Shelf Go.Joins Go.Deep
set_option linter.unusedVariables false
set_option linter.unusedSimpArgs false
attribute [local go_sem] Oper.semAt_some

theorem sl_to {l : List UInt8} {b : Nat} (hb : b ≤ l.length) (W : World) : (Instr.slice 9 (.string (bsT l)) none (some (.int .i64 (b : Int))) none).run Tryd.prog W = .ok (.string (bsT (l.take b))) W := by
  have h := ext_bsT l 0 b
  have hs : (bsT l).size = l.length := bsT_size l
  simp only [List.drop_zero, Nat.sub_zero] at h
  simp [Instr.slice, go_sem, hs, h, hb]
def lenAt (W : World) (B : Nat) : Nat := match W.heap[B]? with
  | some (Obj.cells cs _ _) => (match cs[0]? with
    | some (Value.string s) => s.size
    | _ => 0)
  | _ => 0
theorem lenAt_of {W : World} {B : Nat} {r : List UInt8} (h : W.heap[B]? = some (.cells #[.string (bsT r)] 9 (0, 0))) : lenAt W B = r.length := by
  unfold lenAt
  rw [h]
  simp [bsT_size]
theorem enters_lines : ∀ args w, (callFunc 94 args).run Tryd.prog w = .ok (.enter 94 args) w := enters_of Tryd.func94 (by kernel_rfl) rfl
theorem lines_any (l : List UInt8) (w : World) :
    Calls Tryd.prog 70 #[.string (bsT l)] w fun e w' => e = .returned (.func (.func 94) #[] #[.pointer (some ⟨w.heap.size, 0, none⟩)]) ∧ w' = w.alloc (.cells #[.string (bsT l)] 9) := by
  go_enter Tryd.func70, Tryd.ntmps70
  go_wp2
  go_ret
  exact ⟨rfl, rfl⟩
set_option maxRecDepth 100000 in
set_option maxHeartbeats 8000000 in
theorem lines1_box (n' : Nat) (hn' : 1 ≤ n') (B : Nat) (l : List UInt8) (hl : l.length ≤ 2000000) (w : World) (hb : w.heap[B]? = some (.cells #[.string (bsT l)] 9 (0, 0))) :
    IterBox Fence.wide n' Tryd.prog 94 #[.pointer (some ⟨B, 0, none⟩)] (fun x : List UInt8 => #[.string (bsT x)]) B (lnX l) (lns l).length w := by
  intro lk J Jx Wd hWd hJ hY h0
  have HB0 := Lib.hid (hWd.trans hb)
  have HJ := Lib.hid hJ
  have HJ0 := Lib.hid h0
  have HR0 := Lib.hid (lnR_zero l)
  clear hWd hb hJ h0
  refine callsIn_of_wp Tryd.func94 rfl trivial ?_ rfl
  simp only [Tryd.ntmps94, List.size_toArray, List.length_cons, List.length_nil, Nat.reduceAdd, Nat.reduceSub, Array.replicate_succ, Array.replicate_zero, List.push_toArray, List.append_toArray, List.nil_append, List.cons_append]
  gi_wp2
  gi_loopw [3, 4] (fun _ _ wr => ∃ (k : Nat) (r : List UInt8), k ≤ (lns l).length ∧ Hid (lnR l k r) ∧ Hid (J k wr) ∧ Hid (wr.heap[B]? = some (.cells #[.string (bsT r)] 9 (0, 0)))) (fun _ _ wr => lenAt wr B)
  case atStart => exact ⟨0, l, Nat.zero_le _, HR0, HJ0, HB0⟩
  case round =>
    clear HB0 HJ0 HR0
    obtain ⟨k, r, hkN, HR, HJk, HB⟩ := hrel
    have c0 : wr.cell? ⟨B, 0, none⟩ = some (.string (bsT r)) := cell_of_row _ _ 0 _ _ _ HB.out
    have lB := blk_lt HB.out
    have hr2 := HR.out.2
    have HL := Lib.hid (lenAt_of HB.out)
    obtain ⟨S, hS⟩ : ∃ S, bsT r = S := ⟨_, rfl⟩
    have hsz : S.size = r.length := by rw [← hS, bsT_size]
    obtain ⟨iv, hiv⟩ : ∃ iv, Lib.indexByte r 10 = iv := ⟨_, rfl⟩
    have hge : -1 ≤ iv := by rw [← hiv]; exact Lib.indexByte_ge _ _
    have HIX := Lib.hid (fun W => (by have h := strings_IndexByte (bsT r) 10 W; rw [bsT_list] at h; rw [← hS, ← hiv]; exact h.mono fun _ _ ⟨a, b⟩ => ⟨a, b.symm⟩ : Calls Tryd.prog 95 #[.string S, .int .u8 10] W fun e w' => e = .returned (.int .i64 iv) ∧ W = w'))
    have HIV := Lib.hid hiv
    have HS := Lib.hid hS
    rw [hS] at c0
    clear hS hiv
    by_cases hr : r = []
    · have e0 : ¬ (0 : Int) < (S.size : Int) := by rw [hsz, hr]; simp
      have e1 : decide ((0 : Int) < (S.size : Int)) = false := by simpa using e0
      have hN : (lns l).length = k := by have := (lnR_end HR.out).1 hr; omega
      clear hsz hr2
      gi_wp2
      go_end0
      exact ⟨⟨_, rfl⟩, .inl HJk.out⟩
    · have hpos : 0 < r.length := List.length_pos_iff.2 hr
      have e0 : (0 : Int) < (S.size : Int) := by omega
      have e1 : decide ((0 : Int) < (S.size : Int)) = true := by simpa using e0
      have hkl := lnR_lt HR.out hr
      gi_wp2_with fail
      refine ⟨trivial, (callsIn_wide.2 (HIX.out _)).mono ?_⟩
      rintro e w2 ⟨rfl, h⟩
      obtain rfl : wr = w2 := h
      clear HIX
      by_cases hn : iv = -1
      · obtain ⟨h1, h2⟩ := lnR_last HR.out hr (idx_none (HIV.out.trans hn))
        have RN := Lib.hid (show Hid (lnR l (k + 1) []) from Lib.hid h2)
        have BN := Lib.hid (show (wr.setCell ⟨B, 0, none⟩ (.string ⟨#[]⟩)).heap[B]? = some (.cells #[.string (bsT [])] 9 (0, 0)) from blk_set_same' HB.out)
        have f0 : wr.frozen? ⟨B, 0, none⟩ = false := frozen_of_row _ _ 0 _ _ HB.out
        have JN := HJ.out k wr (wr.setCell ⟨B, 0, none⟩ (.string ⟨#[]⟩)) HJk.out (grownBy_setCell' wr B _)
        obtain ⟨fn, tmps, assign, body, hy, hRd⟩ := hY k _ JN hkl
        rw [h1, HS.out] at hy
        have e2 : ¬ (0 : Int) ≤ iv := by omega
        have e3 : decide ((0 : Int) ≤ iv) = false := by simpa using e2
        clear h1 h2 JN hn hge
        gi_wp2
        refine hRd.mono ?_
        rintro e W3 (⟨rfl, hJ3, hB3⟩ | ⟨rfl, hJx3⟩)
        · have J3 := Lib.hid hJ3
          have B3 := Lib.hid (hB3.trans BN.out)
          have hm := lenAt_of B3.out
          clear hJ3 hB3 hy
          gi_wp2
          go_roundw
          case rel => exact ⟨k + 1, [], by omega, RN.out, J3, B3⟩
          case measure => rw [hm, HL.out]; exact hpos
        · clear hy
          gi_wp2
          refine bodyPost_ret (results_none rfl _ _ _) rfl ?_
          exact ⟨⟨_, rfl⟩, .inr hJx3⟩
      · obtain ⟨i, rfl⟩ : ∃ i : Nat, iv = i := ⟨iv.toNat, by omega⟩
        obtain ⟨x, t, hx1, hx2, hx3⟩ := idx_some HIV.out
        obtain ⟨h1, h2⟩ := lnR_step HR.out hx1 hx2
        have RN := Lib.hid (show Hid (lnR l (k + 1) t) from Lib.hid h2)
        have hil : i + 1 ≤ r.length := by rw [hx1, ← hx3]; simp
        have htl : t.length < r.length := by rw [hx1]; simp; omega
        have hto := fun W => sl_to (l := r) (b := i + 1) hil W
        have hfr := fun W => sl_from (l := r) (a := i + 1) hil W
        have et : r.take (i + 1) = x ++ [10] := by rw [hx1, ← hx3, List.take_append]; simp; exact List.take_of_length_le (by omega)
        have ed : r.drop (i + 1) = t := by rw [hx1, ← hx3, List.drop_append]; simp
        have ei : ((i + 1 : Nat) : Int) = (i : Int) + 1 := by omega
        rw [et, HS.out, ei] at hto
        rw [ed, HS.out, ei] at hfr
        have w1 : IntKind.i64.wrap ((i : Int) + 1) = (i : Int) + 1 := IntWalk.i64_in _ (by omega)
        have BN := Lib.hid (show (wr.setCell ⟨B, 0, none⟩ (.string (bsT t))).drew.heap[B]? = some (.cells #[.string (bsT t)] 9 (0, 0)) from blk_set_same' HB.out)
        have f0 : wr.frozen? ⟨B, 0, none⟩ = false := frozen_of_row _ _ 0 _ _ HB.out
        have JN := HJ.out k (wr.setCell ⟨B, 0, none⟩ (.string (bsT t))) (wr.setCell ⟨B, 0, none⟩ (.string (bsT t))).drew (HJ.out k wr _ HJk.out (grownBy_setCell' wr B _)) ⟨rfl, rfl, rfl, Nat.le_refl _, fun _ _ _ => rfl⟩
        obtain ⟨fn, tmps, assign, body, hy, hRd⟩ := hY k _ JN hkl
        rw [h1] at hy
        have e2 : (0 : Int) ≤ (i : Int) := by omega
        have e3 : decide ((0 : Int) ≤ (i : Int)) = true := by simp
        clear h1 h2 JN hn hge hx1 hx2 hx3 et ed
        gi_wp2
        refine wpIn_wide.2 ?_
        refine wp_region_still_tail 9 (by kernel_rfl) (by kernel_rfl) ?_
        simp only [List.take_succ_cons, List.take_zero, List.drop_succ_cons, List.drop_zero]
        repeat still_step
        try refine wpStill_nil ?_
        change wpList _ _ _ _ _ wr.drew
        go_wp2
        gi_wp2
        refine hRd.mono ?_
        rintro e W3 (⟨rfl, hJ3, hB3⟩ | ⟨rfl, hJx3⟩)
        · have J3 := Lib.hid hJ3
          have B3 := Lib.hid (hB3.trans BN.out)
          have hm := lenAt_of B3.out
          clear hJ3 hB3 hy
          gi_wp2
          go_roundw
          case rel => exact ⟨k + 1, t, by omega, RN.out, J3, B3⟩
          case measure => rw [hm, HL.out]; exact htl
        · clear hy
          gi_wp2
          refine bodyPost_ret (results_none rfl _ _ _) rfl ?_
          exact ⟨⟨_, rfl⟩, .inr hJx3⟩
end Go.Proofs.YthngnbaoaeomeaaDoor
