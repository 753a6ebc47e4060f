/- The program's layout of a board: the map of its cells, if the board is valid. -/
import Derived.Test.YthancdlkkfegnaaLy
import Derived.Carry
import Derived.Handy
namespace Go.Proofs.Ythancdlkkfegnaa
open Go.ChangeShapes Go.WideShapes Go.ChangeAt Go.RowKit
set_option linter.unusedVariables false

theorem findFrom_take (x y : Int) : ∀ (l : List Pc) (k : Nat) (j : Int) (h : k < l.length), 0 ≤ j → l[k].x = x → l[k].y = y → (findFrom x y l j = j + k ↔ findFrom x y (l.take k) j < 0)
  | p :: l, 0, j, _, hj, hx, hy => by
    simp only [List.getElem_cons_zero] at hx hy
    simp [findFrom, hx, hy]
  | p :: l, k + 1, j, h, hj, hx, hy => by
    simp only [List.getElem_cons_succ] at hx hy
    rw [List.take_succ_cons]
    unfold findFrom
    by_cases hp : p.x = x ∧ p.y = y
    · rw [if_pos hp, if_pos hp]
      constructor <;> intro h <;> omega
    · rw [if_neg hp, if_neg hp]
      have := findFrom_take x y l k (j + 1) (by simpa using h) (by omega) hx hy
      rw [← this]
      constructor <;> intro h <;> (push_cast at * ; omega)
  | [], _, _, h, _, _, _ => by simp at h

theorem MapAt.set {w : World} {B : Nat} {l : List Pc} {a : Addr} {v : Value} (h : MapAt w B l) (hne : a.block ≠ B) : MapAt (w.setCell a v) B l := by
  obtain ⟨es, c, h1, h2⟩ := h
  exact ⟨es, c, (Below.heap_setCell _ _ _ _ (Ne.symm hne)).trans h1, h2⟩

/-- the blocks that the call has laid: the board's box, the result's, the map, the layout's -/
structure LoSt (wr : World) (s : Nat) (wd hi : Int) (v : Value) (l : List Pc) : Prop where
  t1 : wr.heap[s]? = some (.cells #[.int .i8 wd, .int .i8 hi, v] 30 (0, 0))
  t2 : wr.heap[s + 1]? = some (.cells #[.int .i8 0, .int .i8 0, .map none] 94 (0, 0))
  m : MapAt wr (s + 1 + 1) l
  t4 : wr.heap[s + 1 + 1 + 1]? = some (.cells #[.int .i8 wd, .int .i8 hi, .map (some (s + 1 + 1))] 94 (0, 0))
theorem LoSt.lt {wr : World} {s : Nat} {wd hi : Int} {v : Value} {l : List Pc} (h : LoSt wr s wd hi v l) : s + 1 + 1 + 1 < wr.heap.size := (Array.getElem?_eq_some_iff.1 h.t4).1
theorem LoSt.below {wr w' : World} {s : Nat} {wd hi : Int} {v : Value} {l : List Pc} (h : LoSt wr s wd hi v l) (hb : Below wr.heap.size wr w') : LoSt w' s wd hi v l :=
  have hl := h.lt
  ⟨(hb.block s (by omega)).trans h.t1, (hb.block (s + 1) (by omega)).trans h.t2, h.m.below hb, (hb.block (s + 1 + 1 + 1) (by omega)).trans h.t4⟩
theorem LoSt.start (w : World) (wd hi : Int) (v : Value) : LoSt ((((w.alloc (.cells #[.int .i8 wd, .int .i8 hi, v] 30)).alloc (.cells #[.int .i8 0, .int .i8 0, .map none] 94)).alloc (.map #[] 0)).alloc (.cells #[.int .i8 wd, .int .i8 hi, .map (some (w.heap.size + 1 + 1))] 94)) w.heap.size wd hi v [] := by
  refine ⟨?_, ?_, ⟨#[], 0, ?_, trivial⟩, ?_⟩
  · rw [Below.heap_alloc _ _ _ (by simp; try omega), Below.heap_alloc _ _ _ (by simp; try omega), Below.heap_alloc _ _ _ (by simp; try omega)]; exact heap_alloc_new _ _
  · rw [Below.heap_alloc _ _ _ (by simp; try omega), Below.heap_alloc _ _ _ (by simp; try omega)]
    have := heap_alloc_new (w.alloc (.cells #[.int .i8 wd, .int .i8 hi, v] 30)) (.cells #[.int .i8 0, .int .i8 0, .map none] 94)
    simpa only [World.size_alloc] using this
  · rw [Below.heap_alloc _ _ _ (by simp)]
    have := heap_alloc_new ((w.alloc (.cells #[.int .i8 wd, .int .i8 hi, v] 30)).alloc (.cells #[.int .i8 0, .int .i8 0, .map none] 94)) (.map #[] 0)
    simpa only [World.size_alloc] using this
  · have := heap_alloc_new (((w.alloc (.cells #[.int .i8 wd, .int .i8 hi, v] 30)).alloc (.cells #[.int .i8 0, .int .i8 0, .map none] 94)).alloc (.map #[] 0)) (.cells #[.int .i8 wd, .int .i8 hi, .map (some (w.heap.size + 1 + 1))] 94)
    simpa only [World.size_alloc] using this

/-- what layoutOf answers -/
def LoPost (R : Bool) (wd hi : Int) (l : List Pc) (w : World) (e : Ending) (w' : World) : Prop :=
  (R = true → ∃ B, e = .returned (.tuple #[.agg #[.int .i8 wd, .int .i8 hi, .map (some B)], .bool true]) ∧ MapAt w' B l) ∧
  (R = false → e = .returned (.tuple #[.agg #[.int .i8 0, .int .i8 0, .map none], .bool false])) ∧ Below w.heap.size w w'

set_option maxRecDepth 100000 in
set_option maxHeartbeats 4000000 in
theorem layoutOf_in (b o n cap : Nat) (wd hi : Int) (l : List Pc) (w : World) (hn : l.length = n) (hp : PcsAt w b o l) (hb : b < w.heap.size) (hc : n ≤ cap) (h8 : All8 l)
    (hw : 1 ≤ wd ∧ wd ≤ 24) (hh : 1 ≤ hi ∧ hi ≤ 24) (hl : n ≤ 200) (R : Bool) (hok : okFrom wd hi l 0 l = R) :
    Calls Try.prog 68 #[.agg #[.int .i8 wd, .int .i8 hi, .slice (some ⟨b, o, none⟩) n cap]] w (LoPost R wd hi l w) := by
  have Hn := Lib.hid hn
  have Hok : Hid (okFrom wd hi l 0 (l.drop 0) = R) := hok
  have hmm := @run_makeMap Try.prog
  have h200 : decide (200 < (n : Int)) = false := by simp; omega
  have hst := LoSt.start w wd hi (.slice (some ⟨b, o, none⟩) n cap)
  have Hst := Lib.hid hst
  clear hn hok hst
  go_enter Try.func68, Try.ntmps68
  go_wp2_with fail
  refine (allowed_any _ _ _ true (by simp; omega)).mono ?_
  rintro e w1 ⟨rfl, hb1⟩
  have hst1 := Hst.out.below hb1
  have hbb : Below w.heap.size w w1 := by repeat (first | with_reducible exact Below.refl _ _ | (with_reducible refine kSet ?_ ?hB _; case hB => (simp; try omega)) | with_reducible refine kAlloc ?_ _ | with_reducible refine Below.drew ?_ | with_reducible refine kDrewN ?_ _ | with_reducible refine kTrans ?_ (by assumption))
  have k0 : w1.cell? ⟨w.heap.size, 0, none⟩ = some (.int .i8 wd) := cell_of_row w1 _ 0 _ _ _ hst1.t1
  have k1 : w1.cell? ⟨w.heap.size, 1, none⟩ = some (.int .i8 hi) := cell_of_row w1 _ 1 _ _ _ hst1.t1
  have k2 : w1.cell? ⟨w.heap.size, 2, none⟩ = some (.slice (some ⟨b, o, none⟩) n cap) := cell_of_row w1 _ 2 _ _ _ hst1.t1
  have Hst1 := Lib.hid hst1
  clear Hst hb1 hst1
  go_wp2
  go_loopw [28] (fun i wr => ∃ k : Nat, k ≤ n ∧ i = .int .i64 k ∧ Hid (okFrom wd hi l k (l.drop k) = R) ∧ Hid (LoSt wr w.heap.size wd hi (.slice (some ⟨b, o, none⟩) n cap) (l.take k)) ∧ Below w.heap.size w wr) (fun i _ => n - (intOf i).toNat)
  case atStart => exact ⟨0, by omega, rfl, Hok, Hst1, hbb⟩
  case round =>
    obtain ⟨k, hk, rfl, hf, hst, hbr⟩ := hrel
    clear k0 k1 k2 Hok Hst1 hbb
    by_cases hlt : k < n
    · have hlk : k < l.length := by rw [Hn.out]; exact hlt
      have hpa := (hp.below hbr hb) k hlk
      have hd : l.drop k = l[k] :: l.drop (k + 1) := List.drop_eq_getElem_cons hlk
      have hp8 := h8 _ (List.getElem_mem hlk)
      have htk : l.take (k + 1) = l.take k ++ [l[k]] := List.take_succ_eq_append_getElem hlk
      have hft := findFrom_take l[k].x l[k].y l k 0 hlk (by omega) rfl rfl
      generalize l[k] = p at hd hpa hp8 htk hft
      have hok1 : (okOne wd hi l k p && okFrom wd hi l (k + 1) (l.drop (k + 1))) = R := by
        have := hf.out
        rw [hd] at this
        exact this
      obtain ⟨a0, a1, a2, a3, a4⟩ := hpa
      have hka : Below wr.heap.size wr (wr.alloc (.cells #[.int .i8 p.x, .int .i8 p.y, .int .i8 p.kind, .int .i8 p.turn, .int .i8 p.delay] 46)) := by repeat (first | with_reducible exact Below.refl _ _ | (with_reducible refine kSet ?_ ?hB _; case hB => (simp; try omega)) | with_reducible refine kAlloc ?_ _ | with_reducible refine Below.drew ?_ | with_reducible refine kDrewN ?_ _ | with_reducible refine kTrans ?_ (by assumption))
      have hsa := hst.out.below hka
      have hpb := PcAt.box wr p 46
      have hlw := hst.out.lt
      have Hsa := Lib.hid hsa
      have Hpb := Lib.hid hpb
      have Hft := Lib.hid hft
      have Htk := Lib.hid htk
      clear hp h8 hf hd hsa hpb hst hft htk
      cases g1 : p.ok with
      | false =>
        have hR : R = false := by rw [← hok1]; simp [okOne, g1]
        subst hR
        have G1 : Hid (false = p.ok) := g1.symm
        clear hok1 g1
        go_wp2_with fail
        refine (implValidPiece_any p _ hp8 false G1.out).mono ?_
        rintro e w2 ⟨rfl, hb2⟩
        have hs2 := Hsa.out.below hb2
        have hlt2 := hs2.lt
        have m0 : w2.cell? ⟨w.heap.size + 1 + 1 + 1, 0, none⟩ = some (.int .i8 wd) := cell_of_row w2 _ 0 _ _ _ hs2.t4
        have m1 : w2.cell? ⟨w.heap.size + 1 + 1 + 1, 1, none⟩ = some (.int .i8 hi) := cell_of_row w2 _ 1 _ _ _ hs2.t4
        have m2 : w2.cell? ⟨w.heap.size + 1 + 1 + 1, 2, none⟩ = some (.map (some (w.heap.size + 1 + 1))) := cell_of_row w2 _ 2 _ _ _ hs2.t4
        have z0 : w2.cell? ⟨w.heap.size + 1, 0, none⟩ = some (.int .i8 0) := cell_of_row w2 _ 0 _ _ _ hs2.t2
        have z1 : w2.cell? ⟨w.heap.size + 1, 1, none⟩ = some (.int .i8 0) := cell_of_row w2 _ 1 _ _ _ hs2.t2
        have z2 : w2.cell? ⟨w.heap.size + 1, 2, none⟩ = some (.map none) := cell_of_row w2 _ 2 _ _ _ hs2.t2
        have y0 : ∀ j, w2.frozen? ⟨w.heap.size + 1, j, none⟩ = false := fun j => frozen_of_row w2 _ j _ _ hs2.t2
        clear hs2 Hsa Hpb a0 a1 a2 a3 a4
        go_wp2
        exact bodyPost_ret (v := .tuple #[.agg #[.int .i8 0, .int .i8 0, .map none], .bool false]) (by simp [results, Try.results68, go_sem, z0, z1, z2]) rfl ⟨(fun h => nomatch h), fun _ => rfl, by repeat (first | with_reducible exact Below.refl _ _ | (with_reducible refine kSet ?_ ?hB _; case hB => (simp; try omega)) | with_reducible refine kAlloc ?_ _ | with_reducible refine Below.drew ?_ | with_reducible refine kDrewN ?_ _ | with_reducible refine kTrans ?_ (by assumption))⟩
      | true =>
        have G1 : Hid (true = p.ok) := g1.symm
        go_wp2_with fail
        refine (implValidPiece_any p _ hp8 true G1.out).mono ?_
        rintro e w2 ⟨rfl, hb2⟩
        have hs2 := Hsa.out.below hb2
        have hlt2 := hs2.lt
        have hw2 : wr.heap.size < w2.heap.size := by have := hb2.size; simp at this; omega
        obtain ⟨p0, p1, p2, p3, p4⟩ := Hpb.out.below hb2 (by simp)
        have hne : w.heap.size + 1 + 1 + 1 < wr.heap.size := hlw
        have m0 : w2.cell? ⟨w.heap.size + 1 + 1 + 1, 0, none⟩ = some (.int .i8 wd) := cell_of_row w2 _ 0 _ _ _ hs2.t4
        have m1 : w2.cell? ⟨w.heap.size + 1 + 1 + 1, 1, none⟩ = some (.int .i8 hi) := cell_of_row w2 _ 1 _ _ _ hs2.t4
        have m2 : w2.cell? ⟨w.heap.size + 1 + 1 + 1, 2, none⟩ = some (.map (some (w.heap.size + 1 + 1))) := cell_of_row w2 _ 2 _ _ _ hs2.t4
        have z0 : w2.cell? ⟨w.heap.size + 1, 0, none⟩ = some (.int .i8 0) := cell_of_row w2 _ 0 _ _ _ hs2.t2
        have z1 : w2.cell? ⟨w.heap.size + 1, 1, none⟩ = some (.int .i8 0) := cell_of_row w2 _ 1 _ _ _ hs2.t2
        have z2 : w2.cell? ⟨w.heap.size + 1, 2, none⟩ = some (.map none) := cell_of_row w2 _ 2 _ _ _ hs2.t2
        have y0 : ∀ j, w2.frozen? ⟨w.heap.size + 1, j, none⟩ = false := fun j => frozen_of_row w2 _ j _ _ hs2.t2
        have Hs2 := Lib.hid hs2
        clear hs2 Hsa a0 a1 a2 a3 a4
        by_cases g2 : 0 ≤ p.x ∧ p.x < wd ∧ 0 ≤ p.y ∧ p.y < hi
        · go_wp2_with fail
          refine (holds_any _ _ _ _ _ hp8.1 hp8.2.1 (by unfold i8; omega) (by unfold i8; omega) true (by simp; omega)).mono ?_
          rintro e w3 ⟨rfl, hb3⟩
          have hs3 := Hs2.out.below hb3
          have hlt3 := hs3.lt
          have hw3 : wr.heap.size < w3.heap.size := by have := hb3.size; omega
          obtain ⟨p0, p1, p2, p3, p4⟩ := (show PcAt w2 wr.heap.size 0 p from ⟨p0, p1, p2, p3, p4⟩).below hb3 hw2
          clear m0 m1 m2 z0 z1 z2 y0
          have m0 : w3.cell? ⟨w.heap.size + 1 + 1 + 1, 0, none⟩ = some (.int .i8 wd) := cell_of_row w3 _ 0 _ _ _ hs3.t4
          have m1 : w3.cell? ⟨w.heap.size + 1 + 1 + 1, 1, none⟩ = some (.int .i8 hi) := cell_of_row w3 _ 1 _ _ _ hs3.t4
          have m2 : w3.cell? ⟨w.heap.size + 1 + 1 + 1, 2, none⟩ = some (.map (some (w.heap.size + 1 + 1))) := cell_of_row w3 _ 2 _ _ _ hs3.t4
          have z0 : w3.cell? ⟨w.heap.size + 1, 0, none⟩ = some (.int .i8 0) := cell_of_row w3 _ 0 _ _ _ hs3.t2
          have z1 : w3.cell? ⟨w.heap.size + 1, 1, none⟩ = some (.int .i8 0) := cell_of_row w3 _ 1 _ _ _ hs3.t2
          have z2 : w3.cell? ⟨w.heap.size + 1, 2, none⟩ = some (.map none) := cell_of_row w3 _ 2 _ _ _ hs3.t2
          have y0 : ∀ j, w3.frozen? ⟨w.heap.size + 1, j, none⟩ = false := fun j => frozen_of_row w3 _ j _ _ hs3.t2
          obtain ⟨f, hfe⟩ : ∃ f, findFrom p.x p.y (l.take k) 0 = f := ⟨_, rfl⟩
          have hix := indexAt_any wd hi p.x p.y _ (l.take k) w3 hs3.m
          rw [hfe] at hix
          have Hix := Lib.hid hix
          have hft := Hft.out
          rw [hfe] at hft
          have Hfe := Lib.hid hfe
          have Hs3 := Lib.hid hs3
          clear hs3 hix hfe Hft
          go_wp2_with fail
          refine Hix.out.mono ?_
          rintro e w4 ⟨rfl, hb4⟩
          have hs4 := Hs3.out.below hb4
          have hlt4 := hs4.lt
          obtain ⟨p0, p1, p2, p3, p4⟩ := (show PcAt w3 wr.heap.size 0 p from ⟨p0, p1, p2, p3, p4⟩).below hb4 hw3
          clear m0 m1 m2 z0 z1 z2 y0
          have m0 : w4.cell? ⟨w.heap.size + 1 + 1 + 1, 0, none⟩ = some (.int .i8 wd) := cell_of_row w4 _ 0 _ _ _ hs4.t4
          have m1 : w4.cell? ⟨w.heap.size + 1 + 1 + 1, 1, none⟩ = some (.int .i8 hi) := cell_of_row w4 _ 1 _ _ _ hs4.t4
          have m2 : w4.cell? ⟨w.heap.size + 1 + 1 + 1, 2, none⟩ = some (.map (some (w.heap.size + 1 + 1))) := cell_of_row w4 _ 2 _ _ _ hs4.t4
          have z0 : w4.cell? ⟨w.heap.size + 1, 0, none⟩ = some (.int .i8 0) := cell_of_row w4 _ 0 _ _ _ hs4.t2
          have z1 : w4.cell? ⟨w.heap.size + 1, 1, none⟩ = some (.int .i8 0) := cell_of_row w4 _ 1 _ _ _ hs4.t2
          have z2 : w4.cell? ⟨w.heap.size + 1, 2, none⟩ = some (.map none) := cell_of_row w4 _ 2 _ _ _ hs4.t2
          have y0 : ∀ j, w4.frozen? ⟨w.heap.size + 1, j, none⟩ = false := fun j => frozen_of_row w4 _ j _ _ hs4.t2
          by_cases g3 : f < 0
          · have hR : okFrom wd hi l (k + 1) (l.drop (k + 1)) = R := by
              rw [← hok1]
              have : findFrom p.x p.y l 0 = k := by have := hft.2 g3; omega
              simp [okOne, g1, this]
              intro h; omega
            have HR := Lib.hid hR
            obtain ⟨w5, hu, hm5, hk5, hsz5, hos, htp, hout⟩ := run_update_cells p w4 _ (l.take k) hs4.m (by rw [Hfe.out]; exact g3)
            rw [show (l.take k).length = k by simp; omega] at hu
            unfold cellV at hu
            have hbw4 : Below w.heap.size w w4 := by repeat (first | with_reducible exact Below.refl _ _ | (with_reducible refine kSet ?_ ?hB _; case hB => (simp; try omega)) | with_reducible refine kAlloc ?_ _ | with_reducible refine Below.drew ?_ | with_reducible refine kDrewN ?_ _ | with_reducible refine kTrans ?_ (by assumption))
            have hbw5 : Below w.heap.size w w5 := hbw4.trans ⟨hos, htp, hout, by omega, fun q hq => hk5 q (by omega)⟩
            have hs5 : LoSt w5 w.heap.size wd hi (.slice (some ⟨b, o, none⟩) n cap) (l.take (k + 1)) := by
              rw [Htk.out]
              exact ⟨(hk5 _ (by omega)).trans hs4.t1, (hk5 _ (by omega)).trans hs4.t2, hm5, (hk5 _ (by omega)).trans hs4.t4⟩
            have Hs5 := Lib.hid hs5
            have Hb5 := Lib.hid hbw5
            clear hR hok1 g1 hft hm5 hk5 hsz5 hos htp hout hbw4 hbw5 hs5 hs4
            go_wp2
            exact ⟨⟨k + 1, by omega, by go_num, HR, Hs5, Hb5.out⟩, by simp [intOf]; omega⟩
          · have hR : R = false := by
              rw [← hok1]
              have : ¬ findFrom p.x p.y l 0 = k := fun h => g3 (hft.1 (by omega))
              simp [okOne, this]
            subst hR
            clear hok1 g1 hft hs4
            go_wp2
            exact bodyPost_ret (v := .tuple #[.agg #[.int .i8 0, .int .i8 0, .map none], .bool false]) (by simp [results, Try.results68, go_sem, z0, z1, z2]) rfl ⟨(fun h => nomatch h), fun _ => rfl, by repeat (first | with_reducible exact Below.refl _ _ | (with_reducible refine kSet ?_ ?hB _; case hB => (simp; try omega)) | with_reducible refine kAlloc ?_ _ | with_reducible refine Below.drew ?_ | with_reducible refine kDrewN ?_ _ | with_reducible refine kTrans ?_ (by assumption))⟩
        · have hR : R = false := by rw [← hok1]; simp [okOne]; intro _ h1 h2 h3 h4; omega
          subst hR
          clear hok1 g1
          go_wp2_with fail
          refine (holds_any _ _ _ _ _ hp8.1 hp8.2.1 (by unfold i8; omega) (by unfold i8; omega) false (by simpa using g2)).mono ?_
          rintro e w3 ⟨rfl, hb3⟩
          have hs3 := Hs2.out.below hb3
          clear m0 m1 m2 z0 z1 z2 y0 g2
          have m0 : w3.cell? ⟨w.heap.size + 1 + 1 + 1, 0, none⟩ = some (.int .i8 wd) := cell_of_row w3 _ 0 _ _ _ hs3.t4
          have m1 : w3.cell? ⟨w.heap.size + 1 + 1 + 1, 1, none⟩ = some (.int .i8 hi) := cell_of_row w3 _ 1 _ _ _ hs3.t4
          have m2 : w3.cell? ⟨w.heap.size + 1 + 1 + 1, 2, none⟩ = some (.map (some (w.heap.size + 1 + 1))) := cell_of_row w3 _ 2 _ _ _ hs3.t4
          have z0 : w3.cell? ⟨w.heap.size + 1, 0, none⟩ = some (.int .i8 0) := cell_of_row w3 _ 0 _ _ _ hs3.t2
          have z1 : w3.cell? ⟨w.heap.size + 1, 1, none⟩ = some (.int .i8 0) := cell_of_row w3 _ 1 _ _ _ hs3.t2
          have z2 : w3.cell? ⟨w.heap.size + 1, 2, none⟩ = some (.map none) := cell_of_row w3 _ 2 _ _ _ hs3.t2
          have y0 : ∀ j, w3.frozen? ⟨w.heap.size + 1, j, none⟩ = false := fun j => frozen_of_row w3 _ j _ _ hs3.t2
          clear hs3
          go_wp2
          exact bodyPost_ret (v := .tuple #[.agg #[.int .i8 0, .int .i8 0, .map none], .bool false]) (by simp [results, Try.results68, go_sem, z0, z1, z2]) rfl ⟨(fun h => nomatch h), fun _ => rfl, by repeat (first | with_reducible exact Below.refl _ _ | (with_reducible refine kSet ?_ ?hB _; case hB => (simp; try omega)) | with_reducible refine kAlloc ?_ _ | with_reducible refine Below.drew ?_ | with_reducible refine kDrewN ?_ _ | with_reducible refine kTrans ?_ (by assumption))⟩
    · have hkn : k = n := by omega
      have hR : R = true := by rw [← hf.out, List.drop_of_length_le (by rw [Hn.out]; omega)]; rfl
      subst hR
      have hs := hst.out
      rw [List.take_of_length_le (by rw [Hn.out]; omega)] at hs
      have hls := hs.lt
      have HM := Lib.hid hs.m
      have m0 : wr.cell? ⟨w.heap.size + 1 + 1 + 1, 0, none⟩ = some (.int .i8 wd) := cell_of_row wr _ 0 _ _ _ hs.t4
      have m1 : wr.cell? ⟨w.heap.size + 1 + 1 + 1, 1, none⟩ = some (.int .i8 hi) := cell_of_row wr _ 1 _ _ _ hs.t4
      have m2 : wr.cell? ⟨w.heap.size + 1 + 1 + 1, 2, none⟩ = some (.map (some (w.heap.size + 1 + 1))) := cell_of_row wr _ 2 _ _ _ hs.t4
      have z0 : wr.cell? ⟨w.heap.size + 1, 0, none⟩ = some (.int .i8 0) := cell_of_row wr _ 0 _ _ _ hs.t2
      have z1 : wr.cell? ⟨w.heap.size + 1, 1, none⟩ = some (.int .i8 0) := cell_of_row wr _ 1 _ _ _ hs.t2
      have z2 : wr.cell? ⟨w.heap.size + 1, 2, none⟩ = some (.map none) := cell_of_row wr _ 2 _ _ _ hs.t2
      have y0 : ∀ j, wr.frozen? ⟨w.heap.size + 1, j, none⟩ = false := fun j => frozen_of_row wr _ j _ _ hs.t2
      clear hf hp h8 hst hs hkn
      go_wp2
      exact bodyPost_ret (v := .tuple #[.agg #[.int .i8 wd, .int .i8 hi, .map (some (w.heap.size + 1 + 1))], .bool true]) (by simp [results, Try.results68, go_sem, z0, z1, z2]) rfl ⟨fun _ => ⟨_, rfl, by repeat (first | exact HM.out | refine MapAt.set ?_ (by simp))⟩, (fun h => nomatch h), by repeat (first | with_reducible exact Below.refl _ _ | (with_reducible refine kSet ?_ ?hB _; case hB => (simp; try omega)) | with_reducible refine kAlloc ?_ _ | with_reducible refine Below.drew ?_ | with_reducible refine kDrewN ?_ _ | with_reducible refine kTrans ?_ (by assumption))⟩

set_option maxHeartbeats 4000000 in
theorem layoutOf_any (b o n cap : Nat) (wd hi : Int) (l : List Pc) (w : World) (hn : l.length = n) (hp : PcsAt w b o l) (hb : b < w.heap.size) (hc : n ≤ cap) (h8 : All8 l) (hmax : n ≤ 1048576) (R : Bool) (hR : R = boardOk wd hi l) :
    Calls Try.prog 68 #[.agg #[.int .i8 wd, .int .i8 hi, .slice (some ⟨b, o, none⟩) n cap]] w (LoPost R wd hi l w) := by
  by_cases h1 : 1 ≤ wd ∧ wd ≤ 24 ∧ 1 ≤ hi ∧ hi ≤ 24
  · by_cases h3 : n ≤ 200
    · exact layoutOf_in b o n cap wd hi l w hn hp hb hc h8 ⟨h1.1, h1.2.1⟩ h1.2.2 h3 R (by rw [hR]; unfold boardOk; rw [hn]; simp [h1, h3])
    · obtain rfl : R = false := by rw [hR]; unfold boardOk; rw [hn]; simp; intro _ _ _ _ h; omega
      have h200 : decide (200 < (n : Int)) = true := by simp; omega
      have hmm := @run_makeMap Try.prog
      have hst := LoSt.start w wd hi (.slice (some ⟨b, o, none⟩) n cap)
      have Hst := Lib.hid hst
      have H1 := Lib.hid h1
      clear hR hp h8 hn h3 hst h1
      go_enter Try.func68, Try.ntmps68
      go_wp2_with fail
      refine (allowed_any _ _ _ true (by have := H1.out; simp; omega)).mono ?_
      rintro e w1 ⟨rfl, hb1⟩
      have hs1 := Hst.out.below hb1
      have k2 : w1.cell? ⟨w.heap.size, 2, none⟩ = some (.slice (some ⟨b, o, none⟩) n cap) := cell_of_row w1 _ 2 _ _ _ hs1.t1
      have z0 : w1.cell? ⟨w.heap.size + 1, 0, none⟩ = some (.int .i8 0) := cell_of_row w1 _ 0 _ _ _ hs1.t2
      have z1 : w1.cell? ⟨w.heap.size + 1, 1, none⟩ = some (.int .i8 0) := cell_of_row w1 _ 1 _ _ _ hs1.t2
      have z2 : w1.cell? ⟨w.heap.size + 1, 2, none⟩ = some (.map none) := cell_of_row w1 _ 2 _ _ _ hs1.t2
      have y0 : ∀ j, w1.frozen? ⟨w.heap.size + 1, j, none⟩ = false := fun j => frozen_of_row w1 _ j _ _ hs1.t2
      clear hs1 Hst
      go_wp2
      exact bodyPost_ret (v := .tuple #[.agg #[.int .i8 0, .int .i8 0, .map none], .bool false]) (by simp [results, Try.results68, go_sem, z0, z1, z2]) rfl ⟨(fun h => nomatch h), fun _ => rfl, by repeat (first | with_reducible exact Below.refl _ _ | (with_reducible refine kSet ?_ ?hB _; case hB => (simp; try omega)) | with_reducible refine kAlloc ?_ _ | with_reducible refine Below.drew ?_ | with_reducible refine kDrewN ?_ _ | with_reducible refine kTrans ?_ (by assumption))⟩
  · obtain rfl : R = false := by rw [hR]; unfold boardOk; simp; intro a b c d; exact absurd ⟨a, b, c, d⟩ h1
    have hmm := @run_makeMap Try.prog
    have hst := LoSt.start w wd hi (.slice (some ⟨b, o, none⟩) n cap)
    have Hst := Lib.hid hst
    have H1 : Hid (¬ (1 ≤ wd ∧ wd ≤ 24 ∧ 1 ≤ hi ∧ hi ≤ 24)) := h1
    clear hR hp h8 hn hst h1
    go_enter Try.func68, Try.ntmps68
    go_wp2_with fail
    refine (allowed_any _ _ _ false (by have := H1.out; simpa using this)).mono ?_
    rintro e w1 ⟨rfl, hb1⟩
    have hs1 := Hst.out.below hb1
    have z0 : w1.cell? ⟨w.heap.size + 1, 0, none⟩ = some (.int .i8 0) := cell_of_row w1 _ 0 _ _ _ hs1.t2
    have z1 : w1.cell? ⟨w.heap.size + 1, 1, none⟩ = some (.int .i8 0) := cell_of_row w1 _ 1 _ _ _ hs1.t2
    have z2 : w1.cell? ⟨w.heap.size + 1, 2, none⟩ = some (.map none) := cell_of_row w1 _ 2 _ _ _ hs1.t2
    have y0 : ∀ j, w1.frozen? ⟨w.heap.size + 1, j, none⟩ = false := fun j => frozen_of_row w1 _ j _ _ hs1.t2
    clear hs1 Hst
    go_wp2
    exact bodyPost_ret (v := .tuple #[.agg #[.int .i8 0, .int .i8 0, .map none], .bool false]) (by simp [results, Try.results68, go_sem, z0, z1, z2]) rfl ⟨(fun h => nomatch h), fun _ => rfl, by repeat (first | with_reducible exact Below.refl _ _ | (with_reducible refine kSet ?_ ?hB _; case hB => (simp; try omega)) | with_reducible refine kAlloc ?_ _ | with_reducible refine Below.drew ?_ | with_reducible refine kDrewN ?_ _ | with_reducible refine kTrans ?_ (by assumption))⟩
end Go.Proofs.Ythancdlkkfegnaa
