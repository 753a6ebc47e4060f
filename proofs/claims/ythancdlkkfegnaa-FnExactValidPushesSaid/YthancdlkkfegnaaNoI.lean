/- NeighboursOf: the program. -/
import Derived.Test.YthancdlkkfegnaaNo
namespace Go.Proofs.Ythancdlkkfegnaa
open Go.ChangeShapes Go.WideShapes Go.ChangeAt Go.RowKit
set_option linter.unusedVariables false

theorem MapAt.ne {w : World} {B b o : Nat} {l : List Pc} {v : Value} (h : MapAt w B l) (hc : w.cell? ⟨b, o, none⟩ = some v) : b ≠ B := by
  rintro rfl
  obtain ⟨es, c, h1, _⟩ := h
  unfold World.cell? at hc
  simp [h1] at hc
theorem BdAt.set {w : World} {b o c j : Nat} {wd hi : Int} {v x : Value} (h : BdAt w b o wd hi v) (hne : c ≠ b) : BdAt (w.setCell ⟨c, j, none⟩ x) b o wd hi v := by
  have ne : ∀ i : Nat, (⟨c, j, none⟩ : Addr) ≠ ⟨b, i, none⟩ := by intro i e; injection e with h1 _ _; exact hne h1
  obtain ⟨h0, h1, h2⟩ := h
  exact ⟨by rw [World.cell?_setCell_other _ _ _ _ (ne _)]; exact h0, by rw [World.cell?_setCell_other _ _ _ _ (ne _)]; exact h1, by rw [World.cell?_setCell_other _ _ _ _ (ne _)]; exact h2⟩

set_option maxRecDepth 100000 in
set_option maxHeartbeats 4000000 in
theorem implNeighboursOf_any (b o n cap : Nat) (wd hi i : Int) (l : List Pc) (w : World) (hn : l.length = n) (hp : PcsAt w b o l) (hb : b < w.heap.size) (hc : n ≤ cap) (h8 : All8 l) (hmax : n ≤ 1048576) (bi : -9223372036854775808 ≤ i ∧ i ≤ 9223372036854775807) (R : Bool) (hR : R = boardOk wd hi l) :
    Calls Try.prog 38 #[.agg #[.int .i8 wd, .int .i8 hi, .slice (some ⟨b, o, none⟩) n cap], .int .i64 i] w fun e w' => e = .returned (nearV R l i) ∧ Below w.heap.size w w' := by
  have Hn := Lib.hid hn
  have hst := fun p => NoSt.start w wd hi (.slice (some ⟨b, o, none⟩) n cap) 30 55 l p
  have hka : Below w.heap.size w (((w.alloc (.cells #[.int .i8 wd, .int .i8 hi, .slice (some ⟨b, o, none⟩) n cap] 30)).alloc (.cells #[.int .i64 0, .int .i64 0, .int .i64 0, .int .i64 0] 55)).alloc (.cells #[.int .i64 0, .int .i64 0, .int .i64 0, .int .i64 0] 55)) := by repeat (first | with_reducible exact Below.refl _ _ | (with_reducible refine kSet ?_ ?hB _; case hB => (simp; try omega)) | with_reducible refine kAlloc ?_ _ | with_reducible refine Below.drew ?_ | with_reducible refine kDrewN ?_ _ | with_reducible refine kTrans ?_ (by assumption))
  have hx := layoutOf_any b o n cap wd hi l _ hn (hp.below hka hb) (Nat.lt_of_lt_of_le hb hka.size) hc h8 hmax R hR
  have Hx := Lib.hid hx
  have Hst := Lib.hid hst
  have Hka := Lib.hid hka
  have HR := Lib.hid hR
  clear hx hst hka hR hn
  cases R with
  | false =>
    go_enter Try.func38, Try.ntmps38
    go_wp2_with fail
    refine Hx.out.mono ?_
    rintro e w1 ⟨_, h1, hb1⟩
    obtain rfl := h1 rfl
    clear h1
    have hs1 := (Hst.out ⟨0, 0, 0, 0, 0⟩).below hb1
    have hb01 : Below w.heap.size w w1 := kTrans Hka.out hb1
    have m0 := hs1.t2 0 (by omega)
    have m1 := hs1.t2 1 (by omega)
    have m2 := hs1.t2 2 (by omega)
    have m3 := hs1.t2 3 (by omega)
    have mf := hs1.f2
    have z0 := hs1.t3 0 (by omega)
    have z1 := hs1.t3 1 (by omega)
    have z2 := hs1.t3 2 (by omega)
    have z3 := hs1.t3 3 (by omega)
    have zf := hs1.f3
    simp only [nearZ, Nat.not_lt_zero, if_false] at z0 z1 z2 z3
    have hlt := hs1.lt
    have hlt' : w.heap.size + 1 < w1.heap.size := by omega
    clear Hx Hst Hka hs1 hb1 hp h8
    go_wp2
    exact bodyPost_ret (v := .tuple #[.agg #[.int .i64 0, .int .i64 0, .int .i64 0, .int .i64 0], .int .i64 1]) (by simp [results, Try.results38, go_sem, m0, m1, m2, m3, hlt']) rfl ⟨by rw [nearV_no (by simp)]; simp [nearC], by repeat (first | with_reducible exact Below.refl _ _ | (with_reducible refine kSet ?_ ?hB _; case hB => (simp; try omega)) | with_reducible refine kAlloc ?_ _ | with_reducible refine Below.drew ?_ | with_reducible refine kDrewN ?_ _ | with_reducible refine kTrans ?_ (by assumption))⟩
  | true =>
    have hok := boardOk_ok HR.out.symm
    have h200 := boardOk_len HR.out.symm
    rw [Hn.out] at h200
    by_cases hin : 0 ≤ i ∧ i < n
    · obtain ⟨j, rfl⟩ : ∃ j : Nat, i = j := ⟨i.toNat, by omega⟩
      have hjn : j < n := by omega
      have hjl : j < l.length := by rw [Hn.out]; exact hjn
      have hv := nearV_yes (R := true) rfl hjl rfl
      have hpk := Pc.ok_at (hok _ (List.getElem_mem hjl))
      have hpj := hp j hjl
      generalize hpq : l[j] = p at hv hpk hpj
      have Hv := Lib.hid hv
      have Hst2 := Lib.hid (Hst.out p)
      have hgeq : decide ((n : Int) ≤ (j : Int)) = false := by simp; omega
      have hgeq2 : decide (n ≤ j) = false := by simpa using hjn
      have hjneg : decide ((j : Int) < 0) = false := by simp
      clear hv hpq hjl hok h8
      go_enter Try.func38, Try.ntmps38
      go_wp2_with fail
      refine Hx.out.mono ?_
      rintro e w1 ⟨h1, _, hb1⟩
      obtain ⟨B, rfl, hm⟩ := h1 rfl
      clear h1
      have hb01 : Below w.heap.size w w1 := kTrans Hka.out hb1
      have hal : Below w1.heap.size w1 (w1.alloc (.cells #[.int .i8 wd, .int .i8 hi, .map (some B)] 94)) := by repeat (first | with_reducible exact Below.refl _ _ | (with_reducible refine kSet ?_ ?hB _; case hB => (simp; try omega)) | with_reducible refine kAlloc ?_ _ | with_reducible refine Below.drew ?_ | with_reducible refine kDrewN ?_ _ | with_reducible refine kTrans ?_ (by assumption))
      have hs1 := Lib.hid ((Hst2.out.below hb1).below hal)
      have hlb := Lib.hid (BdAt.box w1 wd hi (.map (some B)) 94)
      have hmm := Lib.hid (hm.below hal)
      have hlq := (Hst2.out.below hb1).lt
      have hb02 : Below w.heap.size w (w1.alloc (.cells #[.int .i8 wd, .int .i8 hi, .map (some B)] 94)) := kTrans hb01 hal
      obtain ⟨k0, k1, k2⟩ := id (Hst2.out.below hb1).t1
      simp only [Nat.zero_add] at k1 k2
      have hlt' : w.heap.size < w1.heap.size := by omega
      clear Hx Hst Hka hb1 Hst2 hm hal hb01
      go_wp2
      go_loopw [9, 28] (fun _ i wr => ∃ k : Nat, k ≤ 4 ∧ i = .int .i64 k ∧ Hid (NoSt wr w.heap.size wd hi (.slice (some ⟨b, o, none⟩) n cap) (nearZ l p k)) ∧ Hid (BdAt wr w1.heap.size 0 wd hi (.map (some B))) ∧ Hid (MapAt wr B l) ∧ Below w.heap.size w wr) (fun _ i _ => 4 - (intOf i).toNat)
      case atStart => exact ⟨0, by omega, rfl, hs1, hlb, hmm, hb02⟩
      case round =>
        obtain ⟨k, hk, rfl, hst, hlay, hmap, hbr⟩ := hrel
        clear k0 k1 k2 hs1 hb02 hlb hmm
        by_cases hlt : k < 4
        · obtain ⟨l0, l1, l2⟩ := id hlay.out
          obtain ⟨a0, a1, a2, a3, a4⟩ := hpj.below hbr hb
          have q2 := hst.out.t1.2.2
          simp only [Nat.zero_add] at l1 l2 q2
          have z := hst.out.t3 k hlt
          have zf := hst.out.f3 k
          have hlw := hst.out.lt
          have hlw0 : w.heap.size < wr.heap.size := by omega
          have hll := hlay.out.lt
          have hbw := Nat.lt_of_lt_of_le hb hbr.size
          have wk : IntKind.i8.wrap (k : Int) = k := by rcases (by omega : k = 0 ∨ k = 1 ∨ k = 2 ∨ k = 3) with rfl | rfl | rfl | rfl <;> rfl
          have ne1 : ¬ w.heap.size + 1 + 1 = w1.heap.size := by omega
          have ne2 : ¬ w.heap.size + 1 + 1 = w.heap.size := by omega
          have ne3 : ¬ w.heap.size + 1 + 1 = b := by omega
          have ne1' : ¬ w1.heap.size = w.heap.size + 1 + 1 := by omega
          have ne2' : ¬ w.heap.size = w.heap.size + 1 + 1 := by omega
          have ne3' : ¬ b = w.heap.size + 1 + 1 := by omega
          clear hp a2 a3 a4 hpj
          go_wp2_with fail
          go_region_held3 (fun w' => w'.cell? ⟨w1.heap.size, 0, none⟩ = some (.int .i8 wd) ∧ w'.cell? ⟨w1.heap.size, 1, none⟩ = some (.int .i8 hi) ∧ w'.cell? ⟨w1.heap.size, 2, none⟩ = some (.map (some B)) ∧ w'.cell? ⟨w.heap.size, 2, none⟩ = some (.slice (some ⟨b, o, none⟩) n cap) ∧ w'.cell? ⟨b, o + j * 5, none⟩ = some (.int .i8 p.x) ∧ w'.cell? ⟨b, o + j * 5 + 1, none⟩ = some (.int .i8 p.y)) (go_keep)
            (first
            | (go_at_call 73
               refine (indexAt_any wd hi (stepX p.x k) (stepY p.y k) B l _ (hmap.out.below (kTrans (Below.drew (Below.refl _ _)) hb3))).mono ?_
               rintro e w4 ⟨rfl, hb4⟩
               have l0 := (hb4.cell (p := ⟨w1.heap.size, 0, none⟩) (Nat.lt_of_lt_of_le hll hb3.size)).trans l0
               have l1 := (hb4.cell (p := ⟨w1.heap.size, 1, none⟩) (Nat.lt_of_lt_of_le hll hb3.size)).trans l1
               have l2 := (hb4.cell (p := ⟨w1.heap.size, 2, none⟩) (Nat.lt_of_lt_of_le hll hb3.size)).trans l2
               have q2 := (hb4.cell (p := ⟨w.heap.size, 2, none⟩) (Nat.lt_of_lt_of_le hlw0 hb3.size)).trans q2
               have a0 := (hb4.cell (p := ⟨b, o + j * 5, none⟩) (Nat.lt_of_lt_of_le hbw hb3.size)).trans a0
               have a1 := (hb4.cell (p := ⟨b, o + j * 5 + 1, none⟩) (Nat.lt_of_lt_of_le hbw hb3.size)).trans a1
               have z := (hb4.cell (p := ⟨w.heap.size + 1 + 1, k, none⟩) (Nat.lt_of_lt_of_le hlw hb3.size)).trans z
               have zf := (hb4.frozen (p := ⟨w.heap.size + 1 + 1, k, none⟩) (Nat.lt_of_lt_of_le hlw hb3.size)).trans zf)
            | (go_at_call 86
               refine (step_any p.x p.y k _ (by omega) (by omega) (by omega)).mono ?_
               rintro e w3 ⟨rfl, hb3⟩
               have l0 := (hb3.cell (p := ⟨w1.heap.size, 0, none⟩) hll).trans l0
               have l1 := (hb3.cell (p := ⟨w1.heap.size, 1, none⟩) hll).trans l1
               have l2 := (hb3.cell (p := ⟨w1.heap.size, 2, none⟩) hll).trans l2
               have q2 := (hb3.cell (p := ⟨w.heap.size, 2, none⟩) hlw0).trans q2
               have a0 := (hb3.cell (p := ⟨b, o + j * 5, none⟩) hbw).trans a0
               have a1 := (hb3.cell (p := ⟨b, o + j * 5 + 1, none⟩) hbw).trans a1
               have z := (hb3.cell (p := ⟨w.heap.size + 1 + 1, k, none⟩) hlw).trans z
               have zf := (hb3.frozen (p := ⟨w.heap.size + 1 + 1, k, none⟩) hlw).trans zf))
          have hb34 : Below wr.heap.size wr w4 := kTrans (kTrans (Below.drew (Below.refl _ _)) hb3) hb4
          have hb04 : Below w.heap.size w w4 := kTrans hbr hb34
          have HS := Lib.hid ((hst.out.below hb34).store (z' := nearZ l p (k + 1)) k hlt (nearZ_step l p k))
          rw [nearZ_at] at HS
          have HL := Lib.hid (BdAt.set (j := k) (x := .int .i64 (nearF l p k)) (hlay.out.below hb34 hll) ne1)
          have HM := Lib.hid ((hmap.out.below hb34).set (a := ⟨w.heap.size + 1 + 1, k, none⟩) (v := .int .i64 (nearF l p k)) ((hmap.out.below hb34).ne z))
          unfold nearF at HS HL HM
          generalize findFrom (stepX p.x k) (stepY p.y k) l 0 = F at HS HL HM ⊢
          clear hst hlay hmap hb3 hb4 hb34 z zf l0 l1 l2 q2 a0 a1
          go_wp2
          exact ⟨⟨k + 1, by omega, by go_num, HS, HL, HM, by repeat (first | with_reducible exact Below.refl _ _ | (with_reducible refine kSet ?_ ?hB _; case hB => (simp; try omega)) | with_reducible refine kAlloc ?_ _ | with_reducible refine Below.drew ?_ | with_reducible refine kDrewN ?_ _ | with_reducible refine kTrans ?_ (by assumption))⟩, by simp [intOf]; omega⟩
        · obtain rfl : k = 4 := by omega
          have hs := hst.out
          have m0 := hs.t2 0 (by omega)
          have m1 := hs.t2 1 (by omega)
          have m2 := hs.t2 2 (by omega)
          have m3 := hs.t2 3 (by omega)
          have mf := hs.f2
          have z0 := hs.t3 0 (by omega)
          have z1 := hs.t3 1 (by omega)
          have z2 := hs.t3 2 (by omega)
          have z3 := hs.t3 3 (by omega)
          have zf := hs.f3
          simp only [nearZ, show (0 : Nat) < 4 by decide, show (1 : Nat) < 4 by decide, show (2 : Nat) < 4 by decide, show (3 : Nat) < 4 by decide, if_true] at z0 z1 z2 z3
          have hlt2 := hs.lt
          have hlt3 : w.heap.size + 1 < wr.heap.size := by omega
          clear hst hs hp hpj
          go_wp2
          exact bodyPost_ret (v := .tuple #[.agg #[.int .i64 (nearF l p 0), .int .i64 (nearF l p 1), .int .i64 (nearF l p 2), .int .i64 (nearF l p 3)], .int .i64 0]) (by simp [results, Try.results38, go_sem, m0, m1, m2, m3]) rfl ⟨by rw [Hv.out], by repeat (first | with_reducible exact Below.refl _ _ | (with_reducible refine kSet ?_ ?hB _; case hB => (simp; try omega)) | with_reducible refine kAlloc ?_ _ | with_reducible refine Below.drew ?_ | with_reducible refine kDrewN ?_ _ | with_reducible refine kTrans ?_ (by assumption))⟩
    · have hv : nearV true l i = .tuple #[.agg #[.int .i64 0, .int .i64 0, .int .i64 0, .int .i64 0], .int .i64 2] := by
        rw [nearV_no (by rw [Hn.out]; simpa using hin)]; unfold nearC; rw [if_pos rfl, if_neg (by rw [Hn.out]; exact hin)]
      have Hv := Lib.hid hv
      have hin' : i < 0 ∨ (0 ≤ i ∧ (n : Int) ≤ i) := by omega
      clear hv hin
      rcases hin' with hneg | ⟨hpos, hge⟩
      all_goals
        go_enter Try.func38, Try.ntmps38
        go_wp2_with fail
        refine Hx.out.mono ?_
        rintro e w1 ⟨h1, _, hb1⟩
        obtain ⟨B, rfl, hm⟩ := h1 rfl
        clear h1
        have hs1 := (Hst.out ⟨0, 0, 0, 0, 0⟩).below hb1
        have hb01 : Below w.heap.size w w1 := kTrans Hka.out hb1
        obtain ⟨k0, k1, k2⟩ := id hs1.t1
        simp only [Nat.zero_add] at k1 k2
        have m0 := hs1.t2 0 (by omega)
        have m1 := hs1.t2 1 (by omega)
        have m2 := hs1.t2 2 (by omega)
        have m3 := hs1.t2 3 (by omega)
        have mf := hs1.f2
        have z0 := hs1.t3 0 (by omega)
        have z1 := hs1.t3 1 (by omega)
        have z2 := hs1.t3 2 (by omega)
        have z3 := hs1.t3 3 (by omega)
        have zf := hs1.f3
        simp only [nearZ, Nat.not_lt_zero, if_false] at z0 z1 z2 z3
        have hlt := hs1.lt
        have hlt0 : w.heap.size < w1.heap.size := by omega
        have hlt' : w.heap.size + 1 < w1.heap.size := by omega
        clear Hx Hst Hka hs1 hb1 hp h8 hm
        go_wp2
        exact bodyPost_ret (v := .tuple #[.agg #[.int .i64 0, .int .i64 0, .int .i64 0, .int .i64 0], .int .i64 2]) (by simp [results, Try.results38, go_sem, m0, m1, m2, m3, hlt']) rfl ⟨by rw [Hv.out], by repeat (first | with_reducible exact Below.refl _ _ | (with_reducible refine kSet ?_ ?hB _; case hB => (simp; try omega)) | with_reducible refine kAlloc ?_ _ | with_reducible refine Below.drew ?_ | with_reducible refine kDrewN ?_ _ | with_reducible refine kTrans ?_ (by assumption))⟩
end Go.Proofs.Ythancdlkkfegnaa
