/- NeighboursOf: the program and the model. -/
import Derived.Test.YthancdlkkfegnaaCk
import Derived.Deep.RegionHeld3
namespace Go.Proofs.Ythancdlkkfegnaa
open Go.ChangeShapes Go.WideShapes Go.ChangeAt Go.RowKit
set_option linter.unusedVariables false

theorem Pc.ok_at {p : Pc} (h : p.ok = true) : (0 ≤ p.x ∧ p.x ≤ 23) ∧ (0 ≤ p.y ∧ p.y ≤ 23) := by
  have := of_decide_eq_true h
  omega
/-- the pieces on the four sides -/
def nearF (l : List Pc) (p : Pc) (j : Nat) : Int := findFrom (stepX p.x j) (stepY p.y j) l 0
def nearZ (l : List Pc) (p : Pc) (k : Nat) (j : Nat) : Int := if j < k then nearF l p j else 0
/-- the call's boxes: the board's, the result's, the numbers' -/
structure NoSt (wr : World) (s : Nat) (wd hi : Int) (v : Value) (z : Nat → Int) : Prop where
  t1 : BdAt wr s 0 wd hi v
  t2 : ∀ j : Nat, j < 4 → wr.cell? ⟨s + 1, j, none⟩ = some (.int .i64 0)
  f2 : ∀ j, wr.frozen? ⟨s + 1, j, none⟩ = false
  t3 : ∀ j : Nat, j < 4 → wr.cell? ⟨s + 1 + 1, j, none⟩ = some (.int .i64 (z j))
  f3 : ∀ j, wr.frozen? ⟨s + 1 + 1, j, none⟩ = false
  lt : s + 1 + 1 < wr.heap.size
theorem NoSt.below {wr w' : World} {s : Nat} {wd hi : Int} {v : Value} {z : Nat → Int} (h : NoSt wr s wd hi v z) (hb : Below wr.heap.size wr w') : NoSt w' s wd hi v z :=
  have hl := h.lt
  ⟨h.t1.below hb (by omega), fun j hj => (hb.cell (p := ⟨s + 1, j, none⟩) (by simp; omega)).trans (h.t2 j hj), fun j => (hb.frozen (p := ⟨s + 1, j, none⟩) (by simp; omega)).trans (h.f2 j),
    fun j hj => (hb.cell (p := ⟨s + 1 + 1, j, none⟩) hl).trans (h.t3 j hj), fun j => (hb.frozen (p := ⟨s + 1 + 1, j, none⟩) hl).trans (h.f3 j), Nat.lt_of_lt_of_le hl hb.size⟩
theorem NoSt.store {wr : World} {s : Nat} {wd hi : Int} {v : Value} {z z' : Nat → Int} (h : NoSt wr s wd hi v z) (k : Nat) (hk : k < 4) (hz : ∀ j, z' j = if j = k then z' k else z j) : NoSt (wr.setCell ⟨s + 1 + 1, k, none⟩ (.int .i64 (z' k))) s wd hi v z' := by
  have ne : ∀ (b i : Nat), b ≠ s + 1 + 1 → (⟨s + 1 + 1, k, none⟩ : Addr) ≠ ⟨b, i, none⟩ := by intro b i hb e; injection e with h1 _ _; exact hb h1.symm
  obtain ⟨⟨h0, h1, h2⟩, t2, f2, t3, f3, lt⟩ := h
  refine ⟨⟨?_, ?_, ?_⟩, fun i hi => ?_, fun i => ?_, fun i hi => ?_, fun i => ?_, by simpa [World.size_setCell] using lt⟩
  · rw [World.cell?_setCell_other _ _ _ _ (ne _ _ (by omega))]; exact h0
  · rw [World.cell?_setCell_other _ _ _ _ (ne _ _ (by omega))]; exact h1
  · rw [World.cell?_setCell_other _ _ _ _ (ne _ _ (by omega))]; exact h2
  · rw [World.cell?_setCell_other _ _ _ _ (ne _ _ (by omega))]; exact t2 i hi
  · rw [World.frozen?_setCell]; exact f2 i
  · by_cases e : i = k
    · subst e
      rw [World.cell?_setCell_same _ _ _ (t3 i hi)]
    · rw [World.cell?_setCell_other _ _ _ _ (by intro e2; injection e2 with _ h2 _; exact e h2.symm), hz i, if_neg e]; exact t3 i hi
  · rw [World.frozen?_setCell]; exact f3 i
theorem nearZ_step (l : List Pc) (p : Pc) (k : Nat) : ∀ j, nearZ l p (k + 1) j = if j = k then nearZ l p (k + 1) k else nearZ l p k j := by
  intro j
  unfold nearZ
  by_cases e : j = k
  · subst e; simp
  · rw [if_neg e]
    by_cases h : j < k
    · rw [if_pos h, if_pos (by omega)]
    · rw [if_neg h, if_neg (by omega)]
theorem nearZ_at (l : List Pc) (p : Pc) (k : Nat) : nearZ l p (k + 1) k = nearF l p k := by unfold nearZ; rw [if_pos (by omega)]
theorem NoSt.start (w : World) (wd hi : Int) (v : Value) (t t6 : TypeId) (l : List Pc) (p : Pc) : NoSt (((w.alloc (.cells #[.int .i8 wd, .int .i8 hi, v] t)).alloc (.cells #[.int .i64 0, .int .i64 0, .int .i64 0, .int .i64 0] t6)).alloc (.cells #[.int .i64 0, .int .i64 0, .int .i64 0, .int .i64 0] t6)) w.heap.size wd hi v (nearZ l p 0) := by
  have b1 : Below (w.alloc (.cells #[.int .i8 wd, .int .i8 hi, v] t)).heap.size (w.alloc (.cells #[.int .i8 wd, .int .i8 hi, v] t)) (((w.alloc (.cells #[.int .i8 wd, .int .i8 hi, v] t)).alloc (.cells #[.int .i64 0, .int .i64 0, .int .i64 0, .int .i64 0] t6)).alloc (.cells #[.int .i64 0, .int .i64 0, .int .i64 0, .int .i64 0] t6)) := kAlloc (kAlloc (Below.refl _ _) _) _
  have b2 : Below ((w.alloc (.cells #[.int .i8 wd, .int .i8 hi, v] t)).alloc (.cells #[.int .i64 0, .int .i64 0, .int .i64 0, .int .i64 0] t6)).heap.size ((w.alloc (.cells #[.int .i8 wd, .int .i8 hi, v] t)).alloc (.cells #[.int .i64 0, .int .i64 0, .int .i64 0, .int .i64 0] t6)) (((w.alloc (.cells #[.int .i8 wd, .int .i8 hi, v] t)).alloc (.cells #[.int .i64 0, .int .i64 0, .int .i64 0, .int .i64 0] t6)).alloc (.cells #[.int .i64 0, .int .i64 0, .int .i64 0, .int .i64 0] t6)) := kAlloc (Below.refl _ _) _
  have six : ∀ (x : World) (j : Nat), j < 4 → (x.alloc (.cells #[.int .i64 0, .int .i64 0, .int .i64 0, .int .i64 0] t6)).cell? ⟨x.heap.size, j, none⟩ = some (.int .i64 0) := by
    intro x j hj
    have : j = 0 ∨ j = 1 ∨ j = 2 ∨ j = 3 := by omega
    rcases this with rfl | rfl | rfl | rfl <;> simp
  have frz : ∀ (x : World) (j : Nat), (x.alloc (.cells #[.int .i64 0, .int .i64 0, .int .i64 0, .int .i64 0] t6)).frozen? ⟨x.heap.size, j, none⟩ = false := fun x j => frozen_of_row _ _ j _ _ (heap_alloc_new _ _)
  have e1 : (w.alloc (.cells #[.int .i8 wd, .int .i8 hi, v] t)).heap.size = w.heap.size + 1 := by simp
  have e2 : ((w.alloc (.cells #[.int .i8 wd, .int .i8 hi, v] t)).alloc (.cells #[.int .i64 0, .int .i64 0, .int .i64 0, .int .i64 0] t6)).heap.size = w.heap.size + 1 + 1 := by simp
  refine ⟨(BdAt.box w wd hi v t).below b1 (by simp), fun j hj => ?_, fun j => ?_, fun j hj => ?_, fun j => ?_, by simp⟩
  · have := six (w.alloc (.cells #[.int .i8 wd, .int .i8 hi, v] t)) j hj
    rw [e1] at this
    exact (b2.cell (p := ⟨w.heap.size + 1, j, none⟩) (by simp)).trans this
  · have := frz (w.alloc (.cells #[.int .i8 wd, .int .i8 hi, v] t)) j
    rw [e1] at this
    exact (b2.frozen (p := ⟨w.heap.size + 1, j, none⟩) (by simp)).trans this
  · have := six ((w.alloc (.cells #[.int .i8 wd, .int .i8 hi, v] t)).alloc (.cells #[.int .i64 0, .int .i64 0, .int .i64 0, .int .i64 0] t6)) j hj
    rw [e2] at this
    rw [show nearZ l p 0 j = 0 from by simp [nearZ]]
    exact this
  · have := frz ((w.alloc (.cells #[.int .i8 wd, .int .i8 hi, v] t)).alloc (.cells #[.int .i64 0, .int .i64 0, .int .i64 0, .int .i64 0] t6)) j
    rw [e2] at this
    exact this

/-- the answer and the code -/
def nearM (R : Bool) (l : List Pc) (i : Int) (j : Nat) : Int := if R = true ∧ 0 ≤ i ∧ i < l.length then nearF l (l.getD i.toNat ⟨0, 0, 0, 0, 0⟩) j else 0
def nearC (R : Bool) (l : List Pc) (i : Int) : Int := if R then (if 0 ≤ i ∧ i < l.length then 0 else 2) else 1
def nearV (R : Bool) (l : List Pc) (i : Int) : Value := .tuple #[.agg #[.int .i64 (nearM R l i 0), .int .i64 (nearM R l i 1), .int .i64 (nearM R l i 2), .int .i64 (nearM R l i 3)], .int .i64 (nearC R l i)]
theorem nearV_no {R : Bool} {l : List Pc} {i : Int} (h : ¬ (R = true ∧ 0 ≤ i ∧ i < l.length)) : nearV R l i = .tuple #[.agg #[.int .i64 0, .int .i64 0, .int .i64 0, .int .i64 0], .int .i64 (nearC R l i)] := by
  unfold nearV nearM; simp only [if_neg h]
theorem nearV_yes {R : Bool} {l : List Pc} {i : Nat} {p : Pc} (h : R = true) (hi : i < l.length) (hp : l[i] = p) : nearV R l i = .tuple #[.agg #[.int .i64 (nearF l p 0), .int .i64 (nearF l p 1), .int .i64 (nearF l p 2), .int .i64 (nearF l p 3)], .int .i64 0] := by
  have hg : l.getD ((i : Int)).toNat ⟨0, 0, 0, 0, 0⟩ = p := by rw [Int.toNat_natCast, List.getD_eq_getElem?_getD, List.getElem?_eq_getElem hi, hp]; rfl
  have hc : R = true ∧ 0 ≤ (i : Int) ∧ (i : Int) < l.length := ⟨h, by omega, by omega⟩
  unfold nearV nearM nearC
  simp only [if_pos hc, hg]
  rw [if_pos h, if_pos hc.2]

set_option maxHeartbeats 1000000 in
theorem l01Near_any (bb bo b o n cap : Nat) (wd hi s : Int) (i : Nat) (p : Pc) (l : List Pc) (w : World) (hn : l.length = n) (hbd : BdAt w bb bo wd hi (.slice (some ⟨b, o, none⟩) n cap)) (hp : PcsAt w b o l) (hb : b < w.heap.size) (hc : n ≤ cap) (hmax : n ≤ 1048576)
    (hi' : i < n) (hpe : ∀ h : i < l.length, l[i] = p) (hs : 0 ≤ s ∧ s ≤ 3) (hx : -127 ≤ p.x ∧ p.x ≤ 126) (hy : -127 ≤ p.y ∧ p.y ≤ 126) (R : Int) (hR : findFrom (stepX p.x s) (stepY p.y s) l 0 = R) :
    Calls Try.prog 85 #[.pointer (some ⟨bb, bo, none⟩), .int .i64 i, .int .i64 s] w fun e w' => e = .returned (.int .i64 R) ∧ Below w.heap.size w w' := by
  have hli : i < l.length := by omega
  obtain ⟨a0, a1, a2, a3, a4⟩ := hp i hli
  rw [hpe hli] at a0 a1 a2 a3 a4
  have HF := Lib.hid (fun w2 (h2 : Below w.heap.size w w2) => l01Find_to bb bo b o n cap wd hi (stepX p.x s) (stepY p.y s) R l w2 hn (hbd.below h2 hbd.lt) (hp.below h2 hb) (Nat.lt_of_lt_of_le hb h2.size) hc hmax hR)
  obtain ⟨q0, q1, q2⟩ := hbd
  clear hn hp hR hpe hli
  go_enter Try.func85, Try.ntmps85
  go_wp2_with fail
  refine (l01Next_any p.x p.y s _ hx hy hs).mono ?_
  rintro e w1 ⟨rfl, hb1⟩
  go_wp2_with fail
  refine (HF.out _ (by repeat (first | with_reducible exact Below.refl _ _ | (with_reducible refine kSet ?_ ?hB _; case hB => (simp; try omega)) | with_reducible refine kAlloc ?_ _ | with_reducible refine Below.drew ?_ | with_reducible refine kDrewN ?_ _ | with_reducible refine kTrans ?_ (by assumption)))).mono ?_
  rintro e w2 ⟨rfl, hb2⟩
  go_wp2
  go_ret
  exact ⟨rfl, by repeat (first | with_reducible exact Below.refl _ _ | (with_reducible refine kSet ?_ ?hB _; case hB => (simp; try omega)) | with_reducible refine kAlloc ?_ _ | with_reducible refine Below.drew ?_ | with_reducible refine kDrewN ?_ _ | with_reducible refine kTrans ?_ (by assumption))⟩
set_option maxRecDepth 100000 in
set_option maxHeartbeats 4000000 in
theorem specNeighboursOf_any (b o n cap : Nat) (wd hi i : Int) (l : List Pc) (w : World) (hn : l.length = n) (hp : PcsAt w b o l) (hb : b < w.heap.size) (hc : n ≤ cap) (h8 : All8 l) (hw8 : i8 wd) (hh8 : i8 hi) (hmax : n ≤ 1048576) (bi : -9223372036854775808 ≤ i ∧ i ≤ 9223372036854775807) (R : Bool) (hR : R = boardOk wd hi l) :
    Calls Try.prog 37 #[.agg #[.int .i8 wd, .int .i8 hi, .slice (some ⟨b, o, none⟩) n cap], .int .i64 i] w fun e w' => e = .returned (nearV R l i) ∧ Below w.heap.size w w' := by
  have Hn := Lib.hid hn
  have hst := fun p => NoSt.start w wd hi (.slice (some ⟨b, o, none⟩) n cap) 30 55 l p
  have hka : Below w.heap.size w (((w.alloc (.cells #[.int .i8 wd, .int .i8 hi, .slice (some ⟨b, o, none⟩) n cap] 30)).alloc (.cells #[.int .i64 0, .int .i64 0, .int .i64 0, .int .i64 0] 55)).alloc (.cells #[.int .i64 0, .int .i64 0, .int .i64 0, .int .i64 0] 55)) := by repeat (first | with_reducible exact Below.refl _ _ | (with_reducible refine kSet ?_ ?hB _; case hB => (simp; try omega)) | with_reducible refine kAlloc ?_ _ | with_reducible refine Below.drew ?_ | with_reducible refine kDrewN ?_ _ | with_reducible refine kTrans ?_ (by assumption))
  have hx := l01Ok_any w.heap.size 0 b o n cap wd hi l _ hn (hst ⟨0, 0, 0, 0, 0⟩).t1 (hp.below hka hb) (Nat.lt_of_lt_of_le hb hka.size) hc h8 hw8 hh8 hmax R hR
  have Hx := Lib.hid hx
  have Hst := Lib.hid hst
  have Hka := Lib.hid hka
  have HR := Lib.hid hR
  clear hx hst hka hR hn
  cases R with
  | false =>
    go_enter Try.func37, Try.ntmps37
    go_wp2_with fail
    refine Hx.out.mono ?_
    rintro e w1 ⟨rfl, hb1⟩
    have hs1 := (Hst.out ⟨0, 0, 0, 0, 0⟩).below hb1
    have hb01 : Below w.heap.size w w1 := kTrans Hka.out hb1
    have m0 := hs1.t2 0 (by omega)
    have m1 := hs1.t2 1 (by omega)
    have m2 := hs1.t2 2 (by omega)
    have m3 := hs1.t2 3 (by omega)
    have mf := hs1.f2
    have z0 := hs1.t3 0 (by omega)
    have z1 := hs1.t3 1 (by omega)
    have z2 := hs1.t3 2 (by omega)
    have z3 := hs1.t3 3 (by omega)
    have zf := hs1.f3
    simp only [nearZ, Nat.not_lt_zero, if_false] at z0 z1 z2 z3
    have hlt := hs1.lt
    clear Hx Hst Hka hs1 hb1 hp h8
    go_wp2
    exact bodyPost_ret (v := .tuple #[.agg #[.int .i64 0, .int .i64 0, .int .i64 0, .int .i64 0], .int .i64 1]) (by simp [results, Try.results37, go_sem, m0, m1, m2, m3]) rfl ⟨by rw [nearV_no (by simp)]; simp [nearC], by repeat (first | with_reducible exact Below.refl _ _ | (with_reducible refine kSet ?_ ?hB _; case hB => (simp; try omega)) | with_reducible refine kAlloc ?_ _ | with_reducible refine Below.drew ?_ | with_reducible refine kDrewN ?_ _ | with_reducible refine kTrans ?_ (by assumption))⟩
  | true =>
    have hok := boardOk_ok HR.out.symm
    have h200 := boardOk_len HR.out.symm
    rw [Hn.out] at h200
    by_cases hin : 0 ≤ i ∧ i < n
    · obtain ⟨j, rfl⟩ : ∃ j : Nat, i = j := ⟨i.toNat, by omega⟩
      have hjn : j < n := by omega
      have hjl : j < l.length := by rw [Hn.out]; exact hjn
      have hv := nearV_yes (R := true) rfl hjl rfl
      have hpk := Pc.ok_at (hok _ (List.getElem_mem hjl))
      have hpe : ∀ h : j < l.length, l[j] = l[j] := fun _ => rfl
      generalize hpq : l[j] = p at hv hpk
      have Hpe : Hid (∀ h : j < l.length, l[j] = p) := Lib.hid (fun _ => hpq)
      have Hv := Lib.hid hv
      have Hst2 := Lib.hid (Hst.out p)
      clear hv hpe hpq hjl hok
      go_enter Try.func37, Try.ntmps37
      go_wp2_with fail
      refine Hx.out.mono ?_
      rintro e w1 ⟨rfl, hb1⟩
      have hs1 := Lib.hid (Hst2.out.below hb1)
      have hb01 : Below w.heap.size w w1 := kTrans Hka.out hb1
      obtain ⟨k0, k1, k2⟩ := id hs1.out.t1
      simp only [Nat.zero_add] at k1 k2
      clear Hx Hst Hka hb1 Hst2
      go_wp2_with fail
      refine (l00In_yes _ _ _ _ (by omega) (by omega)).mono ?_
      rintro e w2 ⟨rfl, rfl⟩
      go_wp2
      go_loopw [7] (fun i wr => ∃ k : Nat, k ≤ 4 ∧ i = .int .i64 k ∧ Hid (NoSt wr w.heap.size wd hi (.slice (some ⟨b, o, none⟩) n cap) (nearZ l p k)) ∧ Below w.heap.size w wr) (fun i _ => 4 - (intOf i).toNat)
      case atStart => exact ⟨0, by omega, rfl, hs1, hb01⟩
      case round =>
        obtain ⟨k, hk, rfl, hst, hbr⟩ := hrel
        clear k0 k1 k2 hs1 hb01
        by_cases hlt : k < 4
        · go_wp2_with fail
          refine (l01Near_any w.heap.size 0 b o n cap wd hi k j p l _ Hn.out hst.out.t1 (hp.below hbr hb) (Nat.lt_of_lt_of_le hb hbr.size) hc hmax hjn Hpe.out (by omega) (by omega) (by omega) (nearF l p k) rfl).mono ?_
          rintro e w3 ⟨rfl, hb3⟩
          have hs3 := hst.out.below hb3
          have z := hs3.t3 k hlt
          have zf := hs3.f3 k
          have hlw := hs3.lt
          have HS := Lib.hid (hs3.store (z' := nearZ l p (k + 1)) k hlt (nearZ_step l p k))
          rw [nearZ_at] at HS
          generalize nearF l p k = F at HS
          clear hs3 hst hp h8
          go_wp2
          exact ⟨⟨k + 1, by omega, by go_num, HS, by repeat (first | with_reducible exact Below.refl _ _ | (with_reducible refine kSet ?_ ?hB _; case hB => (simp; try omega)) | with_reducible refine kAlloc ?_ _ | with_reducible refine Below.drew ?_ | with_reducible refine kDrewN ?_ _ | with_reducible refine kTrans ?_ (by assumption))⟩, by simp [intOf]; omega⟩
        · obtain rfl : k = 4 := by omega
          have hs := hst.out
          have m0 := hs.t2 0 (by omega)
          have m1 := hs.t2 1 (by omega)
          have m2 := hs.t2 2 (by omega)
          have m3 := hs.t2 3 (by omega)
          have mf := hs.f2
          have z0 := hs.t3 0 (by omega)
          have z1 := hs.t3 1 (by omega)
          have z2 := hs.t3 2 (by omega)
          have z3 := hs.t3 3 (by omega)
          have zf := hs.f3
          simp only [nearZ, show (0 : Nat) < 4 by decide, show (1 : Nat) < 4 by decide, show (2 : Nat) < 4 by decide, show (3 : Nat) < 4 by decide, if_true] at z0 z1 z2 z3
          have hlt2 := hs.lt
          clear hst hs hp h8
          go_wp2
          exact bodyPost_ret (v := .tuple #[.agg #[.int .i64 (nearF l p 0), .int .i64 (nearF l p 1), .int .i64 (nearF l p 2), .int .i64 (nearF l p 3)], .int .i64 0]) (by simp [results, Try.results37, go_sem, m0, m1, m2, m3]) rfl ⟨by rw [Hv.out], by repeat (first | with_reducible exact Below.refl _ _ | (with_reducible refine kSet ?_ ?hB _; case hB => (simp; try omega)) | with_reducible refine kAlloc ?_ _ | with_reducible refine Below.drew ?_ | with_reducible refine kDrewN ?_ _ | with_reducible refine kTrans ?_ (by assumption))⟩
    · have hv : nearV true l i = .tuple #[.agg #[.int .i64 0, .int .i64 0, .int .i64 0, .int .i64 0], .int .i64 2] := by
        rw [nearV_no (by rw [Hn.out]; simpa using hin)]; unfold nearC; rw [if_pos rfl, if_neg (by rw [Hn.out]; exact hin)]
      have Hv := Lib.hid hv
      have hin' : i < 0 ∨ (n : Int) - 1 < i := by omega
      clear hv hin
      go_enter Try.func37, Try.ntmps37
      go_wp2_with fail
      refine Hx.out.mono ?_
      rintro e w1 ⟨rfl, hb1⟩
      have hs1 := (Hst.out ⟨0, 0, 0, 0, 0⟩).below hb1
      have hb01 : Below w.heap.size w w1 := kTrans Hka.out hb1
      obtain ⟨k0, k1, k2⟩ := id hs1.t1
      simp only [Nat.zero_add] at k1 k2
      have m0 := hs1.t2 0 (by omega)
      have m1 := hs1.t2 1 (by omega)
      have m2 := hs1.t2 2 (by omega)
      have m3 := hs1.t2 3 (by omega)
      have mf := hs1.f2
      have z0 := hs1.t3 0 (by omega)
      have z1 := hs1.t3 1 (by omega)
      have z2 := hs1.t3 2 (by omega)
      have z3 := hs1.t3 3 (by omega)
      have zf := hs1.f3
      simp only [nearZ, Nat.not_lt_zero, if_false] at z0 z1 z2 z3
      have hlt := hs1.lt
      clear Hx Hst Hka hs1 hb1 hp h8
      go_wp2_with fail
      refine (l00In_no _ _ _ _ (by omega)).mono ?_
      rintro e w2 ⟨rfl, rfl⟩
      go_wp2
      exact bodyPost_ret (v := .tuple #[.agg #[.int .i64 0, .int .i64 0, .int .i64 0, .int .i64 0], .int .i64 2]) (by simp [results, Try.results37, go_sem, m0, m1, m2, m3]) rfl ⟨by rw [Hv.out], by repeat (first | with_reducible exact Below.refl _ _ | (with_reducible refine kSet ?_ ?hB _; case hB => (simp; try omega)) | with_reducible refine kAlloc ?_ _ | with_reducible refine Below.drew ?_ | with_reducible refine kDrewN ?_ _ | with_reducible refine kTrans ?_ (by assumption))⟩
set_option maxHeartbeats 2000000 in
theorem eqInt64A4_same (a b c d : Int) (w : World) :
    Calls Try.prog 39 #[.agg #[.int .i64 a, .int .i64 b, .int .i64 c, .int .i64 d], .agg #[.int .i64 a, .int .i64 b, .int .i64 c, .int .i64 d]] w fun e w' => e = .returned (.bool true) ∧ Below w.heap.size w w' := by
  go_enter Try.func39, Try.ntmps39
  go_wp2
  refine wp_loop_rounds 5 ?_
  rw [rounds_succ]
  go_wp2
  go_quiet (fail)
  go_wp2
  rw [rounds_succ]
  go_wp2
  go_quiet (fail)
  go_wp2
  rw [rounds_succ]
  go_wp2
  go_quiet (fail)
  go_wp2
  rw [rounds_succ]
  go_wp2
  go_quiet (fail)
  go_wp2
  rw [rounds_succ]
  go_wp2
  go_ret
  exact ⟨rfl, by repeat (first | with_reducible exact Below.refl _ _ | (with_reducible refine kSet ?_ ?hB _; case hB => (simp; try omega)) | with_reducible refine kAlloc ?_ _ | with_reducible refine Below.drew ?_ | with_reducible refine kDrewN ?_ _ | with_reducible refine kTrans ?_ (by assumption))⟩
end Go.Proofs.Ythancdlkkfegnaa
