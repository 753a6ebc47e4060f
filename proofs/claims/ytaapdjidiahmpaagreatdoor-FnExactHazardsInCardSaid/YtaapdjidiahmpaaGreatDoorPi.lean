/- The pushes of a row: the program. -/
import Derived.Test.YtaapdjidiahmpaaGreatDoorPl
namespace Go.Proofs.YtaapdjidiahmpaaGreatDoor
open Go.ChangeShapes Go.WideShapes Go.ChangeAt Go.RowKit Go.Joins Go.Deep
set_option linter.unusedVariables false
set_option linter.unusedSimpArgs false

theorem nil_ownsP {w : World} {base size : Nat} {e : TypeId} : w.ownsRow base e size (.slice none 0 0) 0 [] := ⟨by simp, .inl ⟨rfl, rfl⟩⟩
set_option maxRecDepth 100000 in
set_option maxHeartbeats 16000000 in
theorem pushes_any (B k g gb n : Nat) (a0 a2 : Option Addr) (n0 n2 d0 d2 : Nat) (wd hi row : Int) (p : List Po) (t : List Int) (w : World) (hn1 : p.length = n) (hr : t.length = n) (hg : PosAt w k 0 p) (ht : InsAt w g 0 t) (hc : w.cell? ⟨gb, 0, none⟩ = some (.slice (some ⟨g, 0, none⟩) t.length t.length)) (zk : k < w.heap.size) (zg : g < w.heap.size)
    (h6 : n ≤ 6) (hrow : 0 ≤ row ∧ row ≤ 64) (hl : lateAll t = true) (L : List Pu) (hL : pushFrom row p t 0 = L) :
    Calls Tryz.prog 111 #[.agg #[.int .i8 wd, .int .i8 hi, .map (some B), .int .i8 wd, .int .i8 hi, .slice a0 n0 d0, .slice (some ⟨k, 0, none⟩) n n, .slice a2 n2 d2], .int .i64 row, .func (.func 89) #[] #[.pointer (some ⟨gb, 0, none⟩)]] w fun e w' => ∃ v, e = .returned v ∧ SlWPu w.heap.size w'.heap.size w' L v ∧ Below w.heap.size w w' := by
  have zb : gb < w.heap.size := World.block_lt_of_cell? w _ hc
  have HG := Lib.hid (fun W (hW : Below w.heap.size w W) => hg.below hW zk)
  have HT := Lib.hid (fun W (hW : Below w.heap.size w W) => ht.below hW zg)
  have HC := Lib.hid (fun W (hW : Below w.heap.size w W) => (hW.cell (p := ⟨gb, 0, none⟩) zb).trans hc)
  have Hr := Lib.hid hr
  have Hn1 := Lib.hid hn1
  have HL := Lib.hid hl
  have HF : Hid ([] ++ pushFrom row (p.drop 0) (t.drop 0) 0 = L) := Lib.hid (by simpa using hL)
  obtain ⟨i0, hi0, hz0, hzz1, hzz2⟩ := info_parts info_PuP
  have Hi := Lib.hid hi0
  have Hz0 := Lib.hid hz0
  have Hz1 := Lib.hid hzz1
  have Hz2 := Lib.hid hzz2
  have own0 : Hid ((w.alloc (.cells #[.int .i8 wd, .int .i8 hi, .map (some B), .int .i8 wd, .int .i8 hi, .slice a0 n0 d0, .slice (some ⟨k, 0, none⟩) n n, .slice a2 n2 d2] 84)).ownsRow w.heap.size 151 4 (.slice none 0 0) ([] : List Pu).length (flatPu [])) := Lib.hid nil_ownsP
  have hk0 : Below w.heap.size w (w.alloc (.cells #[.int .i8 wd, .int .i8 hi, .map (some B), .int .i8 wd, .int .i8 hi, .slice a0 n0 d0, .slice (some ⟨k, 0, none⟩) n n, .slice a2 n2 d2] 84)) := by repeat (first | with_reducible exact Below.refl _ _ | (with_reducible refine kSet ?_ ?hB _; case hB => (simp; try omega)) | with_reducible refine kAlloc ?_ _ | with_reducible refine Below.drew ?_ | with_reducible refine kDrewN ?_ _ | with_reducible refine kTrans ?_ (by assumption))
  clear hg ht hr hn1 hl hL hi0 hz0 hzz1 hzz2 hc
  go_enter Tryz.func111, Tryz.ntmps111
  go_wp2
  go_loopw [7, 8, 9, 14] (fun out _ _ i wr => ∃ (j : Nat) (P : List Pu), j ≤ n ∧ i = .int .i64 j ∧ P.length ≤ j ∧ Hid (P ++ pushFrom row (p.drop j) (t.drop j) j = L) ∧ Hid (wr.ownsRow w.heap.size 151 4 out P.length (flatPu P)) ∧ Below w.heap.size w wr) (fun _ _ _ i _ => n - (intOf i).toNat)
  case atStart => exact ⟨0, [], by omega, rfl, by simp, HF, own0, hk0⟩
  case round =>
    clear HF own0 hk0
    obtain ⟨j, P, hj, rfl, hPl, hf, hown, hbr⟩ := hrel
    obtain ⟨va, vc, rfl⟩ := owns_slice hown.out
    by_cases hlt : j < n
    · have hlk : j < p.length := by rw [Hn1.out]; exact hlt
      have hlt2 : j < t.length := by rw [Hr.out]; exact hlt
      have hpa := (HG.out wr hbr) j hlk
      have hla := lateAll_get HL.out hlt2
      have hd : p.drop j = p[j] :: p.drop (j + 1) := List.drop_eq_getElem_cons hlk
      have hd2 : t.drop j = t[j] :: t.drop (j + 1) := List.drop_eq_getElem_cons hlt2
      have htold : ∀ W, Below w.heap.size w W → Calls Tryz.prog 89 #[.int .i64 j, .pointer (some ⟨gb, 0, none⟩)] W fun e w' => e = .returned (.int .i64 t[j]) ∧ W = w' := fun W hW => lateTold_any gb g j t W (HC.out W hW) (HT.out W hW) hlt2 (by have := Hr.out; omega)
      generalize p[j] = a at hpa hd
      generalize t[j] = x at hd2 hla htold
      have HTO := Lib.hid htold
      have hq := hf.out
      rw [hd, hd2] at hq
      obtain ⟨a0, a1, a2⟩ := hpa
      simp only [Nat.zero_add] at a0 a1 a2
      have hxw : IntKind.i16.wrap x = x := IntWalk.i16_in _ (by omega)
      have Hblk := Lib.hid (owns_block hown.out)
      have kin : Below wr.heap.size wr (wr.alloc (.cells #[.int .i8 a.x, .int .i8 a.y, .int .i8 a.side] 131)) := kAlloc (Below.refl _ _) _
      have PB := Lib.hid (PoAt.box wr a 131)
      have Tin := kTrans hbr kin
      have hown1 := Lib.hid (owns_below hown.out kin)
      have ha1 : (j : Int) ≤ 64 := by omega
      clear hd hd2 hf htold
      cases hb : bitB row j with
      | false =>
        have hR2 : Hid (P ++ pushFrom row (p.drop (j + 1)) (t.drop (j + 1)) (j + 1) = L) := Lib.hid (by rw [← hq]; simp [pushFrom, hb])
        have HB := Lib.hid hb
        clear hq hb
        go_wp2_with fail
        refine (hasOne_any row j _ hrow.1 (by omega) (by omega)).mono ?_
        rw [HB.out]
        rintro e w1 ⟨rfl, rfl⟩
        go_wp2
        exact ⟨⟨j + 1, P, by omega, by go_num, by omega, hR2, hown1, Tin⟩, by simp [intOf]; omega⟩
      | true =>
        have hR2 : Hid ((P ++ [⟨a.x, a.y, a.side, x⟩]) ++ pushFrom row (p.drop (j + 1)) (t.drop (j + 1)) (j + 1) = L) := Lib.hid (by rw [← hq]; simp [pushFrom, hb])
        have HB := Lib.hid hb
        clear hq hb
        go_wp2_with fail
        refine (hasOne_any row j _ hrow.1 (by omega) (by omega)).mono ?_
        rw [HB.out]
        rintro e w1 ⟨rfl, rfl⟩
        clear a0 a1 a2
        obtain ⟨w1, hw1⟩ : ∃ w1, wr.alloc (.cells #[.int .i8 a.x, .int .i8 a.y, .int .i8 a.side] 131) = w1 := ⟨_, rfl⟩
        have hz : wr.heap.size < w1.heap.size := by rw [← hw1]; simp
        have HW1 := Lib.hid hw1
        rw [hw1] at PB Tin hown1
        go_upto_region 6 with fail
        try rw [HW1.out]
        clear hw1 HW1 kin hown
        have Hblk1 := Lib.hid (owns_block hown1.out)
        have hsz := Tin.size
        obtain ⟨b0, b1, b2⟩ := PB.out
        simp only [Nat.zero_add] at b1 b2
        go_region_held_law (fun w' => w'.cell? ⟨wr.heap.size, 0, none⟩ = some (.int .i8 a.x) ∧ w'.cell? ⟨wr.heap.size, 1, none⟩ = some (.int .i8 a.y) ∧ w'.cell? ⟨wr.heap.size, 2, none⟩ = some (.int .i8 a.side)) (first | exact ⟨b0, b1, b2⟩ | exact ⟨(World.cell?_alloc_lt _ _ _ hz).trans b0, (World.cell?_alloc_lt _ _ _ hz).trans b1, (World.cell?_alloc_lt _ _ _ hz).trans b2⟩ | go_keep)
          (first
          | (go_at_call 89
             refine (HTO.out _ (by repeat (first | with_reducible exact Below.refl _ _ | (with_reducible refine kSet ?_ ?hB _; case hB => (simp; try omega)) | with_reducible refine kAlloc ?_ _ | with_reducible refine Below.drew ?_ | with_reducible refine kDrewN ?_ _ | with_reducible refine kTrans ?_ (by assumption)))).mono ?_
             rintro e v1 ⟨rfl, rfl⟩)
          | (refine step_append_own rfl _ _ 122 rfl w.heap.size 151 i0 _ 4 6 Tryz.underlying122 Hi.out Hz0.out Hz1.out Hz2.out rfl (by decide) (.slice va P.length vc) P.length (flatPu P) rfl (owns_below hown1.out (by repeat (first | with_reducible exact Below.refl _ _ | (with_reducible refine kSet ?_ ?hB _; case hB => (simp; try omega)) | with_reducible refine kAlloc ?_ _ | with_reducible refine Below.drew ?_ | with_reducible refine kDrewN ?_ _ | with_reducible refine kTrans ?_ (by assumption)))) ⟨w1.heap.size, 0, none⟩ 1 1 (Pu.mk a.x a.y a.side x).cells rfl rfl (World.news_of_block (cs := #[.int .i8 a.x, .int .i8 a.y, .int .i8 a.side, .int .i16 x]) (heap_alloc_new w1.drew _)) (Pu_one _) (by unfold maxLen; omega) (by omega) (by simp; omega) ?_
             intro v6 w6 hown6 hgr hnil
             have Hown6 := Lib.hid (show w6.ownsRow w.heap.size 151 4 v6 (P ++ [Pu.mk a.x a.y a.side x]).length (flatPu (P ++ [Pu.mk a.x a.y a.side x])) by rw [flatPu_end, List.length_append]; exact hown6)
             have T6 : Below w.heap.size w w6 := grown_below (v := .slice va P.length vc) (by repeat (first | with_reducible exact Below.refl _ _ | (with_reducible refine kSet ?_ ?hB _; case hB => (simp; try omega)) | with_reducible refine kAlloc ?_ _ | with_reducible refine Below.drew ?_ | with_reducible refine kDrewN ?_ _ | with_reducible refine kTrans ?_ (by assumption))) hgr (by intro q hq; exact (Hblk1.out q hq).1)
             have hb6 : w6.heap[wr.heap.size]? = w1.heap[wr.heap.size]? := (hgr.block wr.heap.size (by simp; omega) (fun e => by have := (Hblk.out _ e.symm).2; omega)).trans (Below.heap_alloc _ _ _ hz)
             have hcb : ∀ j, w6.cell? ⟨wr.heap.size, j, none⟩ = w1.cell? ⟨wr.heap.size, j, none⟩ := fun j => World.cell?_of_block (w := w1) hb6
             have b0 := (hcb 0).trans b0
             have b1 := (hcb 1).trans b1
             have b2 := (hcb 2).trans b2
             clear hown6 hgr hnil))
        go_wp2
        exact ⟨⟨j + 1, _, by omega, by go_num, by simp; omega, hR2, Hown6, T6⟩, by simp [intOf]; omega⟩
    · obtain rfl : j = n := by omega
      have hPL : P = L := by rw [← hf.out, List.drop_of_length_le (by rw [Hn1.out]; omega)]; simp [pushFrom]
      subst hPL
      clear hf
      go_wp2
      go_ret
      exact ⟨_, rfl, SlWPu.of_owns hown.out, hbr⟩
end Go.Proofs.YtaapdjidiahmpaaGreatDoor
