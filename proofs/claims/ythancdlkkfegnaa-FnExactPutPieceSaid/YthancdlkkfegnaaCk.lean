/- CountKinds: the program and the model. -/
import Derived.Test.YthancdlkkfegnaaVb
namespace Go.Proofs.Ythancdlkkfegnaa
open Go.ChangeShapes Go.WideShapes Go.ChangeAt Go.RowKit
set_option linter.unusedVariables false

/-- how many pieces are of a kind -/
def cntK (j : Int) : List Pc → Int
  | [] => 0
  | p :: l => cntK j l + (if p.kind = j then 1 else 0)
theorem cntK_snoc (j : Int) (p : Pc) : ∀ l : List Pc, cntK j (l ++ [p]) = cntK j l + (if p.kind = j then 1 else 0)
  | [] => by simp [cntK]
  | q :: l => by simp only [List.cons_append, cntK, cntK_snoc j p l]; omega
theorem cntK_le (j : Int) : ∀ l : List Pc, 0 ≤ cntK j l ∧ cntK j l ≤ l.length
  | [] => by simp [cntK]
  | q :: l => by have := cntK_le j l; simp only [cntK, List.length_cons]; split <;> omega
theorem okFrom_ok {wd hi : Int} {l : List Pc} : ∀ (r : List Pc) (i : Nat), okFrom wd hi l i r = true → ∀ p ∈ r, p.ok = true
  | [], _, _, p, hp => by simp at hp
  | q :: r, i, h, p, hp => by
    simp only [okFrom, Bool.and_eq_true, okOne] at h
    rcases List.mem_cons.1 hp with rfl | hp
    · exact h.1.1.1
    · exact okFrom_ok r (i + 1) h.2 p hp
theorem boardOk_ok {wd hi : Int} {l : List Pc} (h : boardOk wd hi l = true) : ∀ p ∈ l, p.ok = true := by
  simp only [boardOk, Bool.and_eq_true] at h
  exact okFrom_ok l 0 h.2
theorem boardOk_len {wd hi : Int} {l : List Pc} (h : boardOk wd hi l = true) : l.length ≤ 200 := by
  simp only [boardOk, Bool.and_eq_true, decide_eq_true_eq] at h
  exact h.1.2.2.2.2
theorem Pc.ok_kind {p : Pc} (h : p.ok = true) : 0 ≤ p.kind ∧ p.kind ≤ 5 := by
  have := of_decide_eq_true h
  omega
/-- six numbers in a row of cells -/
def SixAt (w : World) (b : Nat) (l : List Pc) : Prop := ∀ j : Nat, j < 6 → w.cell? ⟨b, j, none⟩ = some (.int .i64 (cntK j l))
def sixV (l : List Pc) : Value := .agg #[.int .i64 (cntK 0 l), .int .i64 (cntK 1 l), .int .i64 (cntK 2 l), .int .i64 (cntK 3 l), .int .i64 (cntK 4 l), .int .i64 (cntK 5 l)]
/-- the call's boxes: the board's, the result's, the counts' -/
structure CkSt (wr : World) (s : Nat) (wd hi : Int) (v : Value) (l : List Pc) : Prop where
  t1 : BdAt wr s 0 wd hi v
  t2 : ∀ j : Nat, j < 6 → wr.cell? ⟨s + 1, j, none⟩ = some (.int .i64 0)
  f2 : ∀ j, wr.frozen? ⟨s + 1, j, none⟩ = false
  t3 : SixAt wr (s + 1 + 1) l
  f3 : ∀ j, wr.frozen? ⟨s + 1 + 1, j, none⟩ = false
  lt : s + 1 + 1 < wr.heap.size
theorem CkSt.below {wr w' : World} {s : Nat} {wd hi : Int} {v : Value} {l : List Pc} (h : CkSt wr s wd hi v l) (hb : Below wr.heap.size wr w') : CkSt w' s wd hi v l :=
  have hl := h.lt
  ⟨h.t1.below hb (by omega), fun j hj => (hb.cell (p := ⟨s + 1, j, none⟩) (by simp; omega)).trans (h.t2 j hj), fun j => (hb.frozen (p := ⟨s + 1, j, none⟩) (by simp; omega)).trans (h.f2 j),
    fun j hj => (hb.cell (p := ⟨s + 1 + 1, j, none⟩) hl).trans (h.t3 j hj), fun j => (hb.frozen (p := ⟨s + 1 + 1, j, none⟩) hl).trans (h.f3 j), Nat.lt_of_lt_of_le hl hb.size⟩
theorem CkSt.store {wr : World} {s : Nat} {wd hi : Int} {v : Value} {l : List Pc} (h : CkSt wr s wd hi v l) (p : Pc) (j : Nat) (hj : j < 6) (hp : p.kind = j) (z : Int) (hz : z = cntK j l + 1) : CkSt (wr.setCell ⟨s + 1 + 1, j, none⟩ (.int .i64 z)) s wd hi v (l ++ [p]) := by
  have ne : ∀ (b i : Nat), b ≠ s + 1 + 1 → (⟨s + 1 + 1, j, none⟩ : Addr) ≠ ⟨b, i, none⟩ := by intro b i hb e; injection e with h1 _ _; exact hb h1.symm
  obtain ⟨⟨h0, h1, h2⟩, t2, f2, t3, f3, lt⟩ := h
  refine ⟨⟨?_, ?_, ?_⟩, fun i hi => ?_, fun i => ?_, fun i hi => ?_, fun i => ?_, by simpa [World.size_setCell] using lt⟩
  · rw [World.cell?_setCell_other _ _ _ _ (ne _ _ (by omega))]; exact h0
  · rw [World.cell?_setCell_other _ _ _ _ (ne _ _ (by omega))]; exact h1
  · rw [World.cell?_setCell_other _ _ _ _ (ne _ _ (by omega))]; exact h2
  · rw [World.cell?_setCell_other _ _ _ _ (ne _ _ (by omega))]; exact t2 i hi
  · rw [World.frozen?_setCell]; exact f2 i
  · rw [cntK_snoc, hp]
    by_cases e : i = j
    · subst e
      rw [World.cell?_setCell_same _ _ _ (t3 i hi), hz, if_pos rfl]
    · rw [World.cell?_setCell_other _ _ _ _ (by intro e2; injection e2 with _ h2 _; exact e h2.symm), if_neg (by omega), Int.add_zero]; exact t3 i hi
  · rw [World.frozen?_setCell]; exact f3 i
theorem CkSt.start (w : World) (wd hi : Int) (v : Value) (t t6 : TypeId) : CkSt (((w.alloc (.cells #[.int .i8 wd, .int .i8 hi, v] t)).alloc (.cells #[.int .i64 0, .int .i64 0, .int .i64 0, .int .i64 0, .int .i64 0, .int .i64 0] t6)).alloc (.cells #[.int .i64 0, .int .i64 0, .int .i64 0, .int .i64 0, .int .i64 0, .int .i64 0] t6)) w.heap.size wd hi v [] := by
  have b1 : Below (w.alloc (.cells #[.int .i8 wd, .int .i8 hi, v] t)).heap.size (w.alloc (.cells #[.int .i8 wd, .int .i8 hi, v] t)) (((w.alloc (.cells #[.int .i8 wd, .int .i8 hi, v] t)).alloc (.cells #[.int .i64 0, .int .i64 0, .int .i64 0, .int .i64 0, .int .i64 0, .int .i64 0] t6)).alloc (.cells #[.int .i64 0, .int .i64 0, .int .i64 0, .int .i64 0, .int .i64 0, .int .i64 0] t6)) := kAlloc (kAlloc (Below.refl _ _) _) _
  have b2 : Below ((w.alloc (.cells #[.int .i8 wd, .int .i8 hi, v] t)).alloc (.cells #[.int .i64 0, .int .i64 0, .int .i64 0, .int .i64 0, .int .i64 0, .int .i64 0] t6)).heap.size ((w.alloc (.cells #[.int .i8 wd, .int .i8 hi, v] t)).alloc (.cells #[.int .i64 0, .int .i64 0, .int .i64 0, .int .i64 0, .int .i64 0, .int .i64 0] t6)) (((w.alloc (.cells #[.int .i8 wd, .int .i8 hi, v] t)).alloc (.cells #[.int .i64 0, .int .i64 0, .int .i64 0, .int .i64 0, .int .i64 0, .int .i64 0] t6)).alloc (.cells #[.int .i64 0, .int .i64 0, .int .i64 0, .int .i64 0, .int .i64 0, .int .i64 0] t6)) := kAlloc (Below.refl _ _) _
  have six : ∀ (x : World) (j : Nat), j < 6 → (x.alloc (.cells #[.int .i64 0, .int .i64 0, .int .i64 0, .int .i64 0, .int .i64 0, .int .i64 0] t6)).cell? ⟨x.heap.size, j, none⟩ = some (.int .i64 0) := by
    intro x j hj
    have : j = 0 ∨ j = 1 ∨ j = 2 ∨ j = 3 ∨ j = 4 ∨ j = 5 := by omega
    rcases this with rfl | rfl | rfl | rfl | rfl | rfl <;> simp
  have frz : ∀ (x : World) (j : Nat), (x.alloc (.cells #[.int .i64 0, .int .i64 0, .int .i64 0, .int .i64 0, .int .i64 0, .int .i64 0] t6)).frozen? ⟨x.heap.size, j, none⟩ = false := fun x j => frozen_of_row _ _ j _ _ (heap_alloc_new _ _)
  have e1 : (w.alloc (.cells #[.int .i8 wd, .int .i8 hi, v] t)).heap.size = w.heap.size + 1 := by simp
  have e2 : ((w.alloc (.cells #[.int .i8 wd, .int .i8 hi, v] t)).alloc (.cells #[.int .i64 0, .int .i64 0, .int .i64 0, .int .i64 0, .int .i64 0, .int .i64 0] t6)).heap.size = w.heap.size + 1 + 1 := by simp
  refine ⟨(BdAt.box w wd hi v t).below b1 (by simp), fun j hj => ?_, fun j => ?_, fun j hj => ?_, fun j => ?_, by simp⟩
  · have := six (w.alloc (.cells #[.int .i8 wd, .int .i8 hi, v] t)) j hj
    rw [e1] at this
    exact (b2.cell (p := ⟨w.heap.size + 1, j, none⟩) (by simp)).trans this
  · have := frz (w.alloc (.cells #[.int .i8 wd, .int .i8 hi, v] t)) j
    rw [e1] at this
    exact (b2.frozen (p := ⟨w.heap.size + 1, j, none⟩) (by simp)).trans this
  · have := six ((w.alloc (.cells #[.int .i8 wd, .int .i8 hi, v] t)).alloc (.cells #[.int .i64 0, .int .i64 0, .int .i64 0, .int .i64 0, .int .i64 0, .int .i64 0] t6)) j hj
    rw [e2] at this
    exact this
  · have := frz ((w.alloc (.cells #[.int .i8 wd, .int .i8 hi, v] t)).alloc (.cells #[.int .i64 0, .int .i64 0, .int .i64 0, .int .i64 0, .int .i64 0, .int .i64 0] t6)) j
    rw [e2] at this
    exact this

set_option maxRecDepth 100000 in
set_option maxHeartbeats 4000000 in
theorem specCountKinds_any (b o n cap : Nat) (wd hi : Int) (l : List Pc) (w : World) (hn : l.length = n) (hp : PcsAt w b o l) (hb : b < w.heap.size) (hc : n ≤ cap) (h8 : All8 l) (hw8 : i8 wd) (hh8 : i8 hi) (hmax : n ≤ 1048576) (R : Bool) (hR : R = boardOk wd hi l) :
    Calls Try.prog 34 #[.agg #[.int .i8 wd, .int .i8 hi, .slice (some ⟨b, o, none⟩) n cap]] w fun e w' => e = .returned (.tuple #[sixV (if R then l else []), .int .i64 (if R then 0 else 1)]) ∧ Below w.heap.size w w' := by
  have Hn := Lib.hid hn
  have hst := CkSt.start w wd hi (.slice (some ⟨b, o, none⟩) n cap) 30 51
  have hka : Below w.heap.size w (((w.alloc (.cells #[.int .i8 wd, .int .i8 hi, .slice (some ⟨b, o, none⟩) n cap] 30)).alloc (.cells #[.int .i64 0, .int .i64 0, .int .i64 0, .int .i64 0, .int .i64 0, .int .i64 0] 51)).alloc (.cells #[.int .i64 0, .int .i64 0, .int .i64 0, .int .i64 0, .int .i64 0, .int .i64 0] 51)) := by repeat (first | with_reducible exact Below.refl _ _ | (with_reducible refine kSet ?_ ?hB _; case hB => (simp; try omega)) | with_reducible refine kAlloc ?_ _ | with_reducible refine Below.drew ?_ | with_reducible refine kDrewN ?_ _ | with_reducible refine kTrans ?_ (by assumption))
  have hx := l01Ok_any w.heap.size 0 b o n cap wd hi l _ hn hst.t1 (hp.below hka hb) (Nat.lt_of_lt_of_le hb hka.size) hc h8 hw8 hh8 hmax R hR
  have Hx := Lib.hid hx
  have Hst := Lib.hid hst
  have Hka := Lib.hid hka
  have HR := Lib.hid hR
  clear hx hst hka hR hn
  cases R with
  | false =>
    go_enter Try.func34, Try.ntmps34
    go_wp2_with fail
    refine Hx.out.mono ?_
    rintro e w1 ⟨rfl, hb1⟩
    have hs1 := Hst.out.below hb1
    have hb01 : Below w.heap.size w w1 := kTrans Hka.out hb1
    have m0 : w1.cell? ⟨w.heap.size + 1, 0, none⟩ = some (.int .i64 0) := hs1.t2 0 (by omega)
    have m1 : w1.cell? ⟨w.heap.size + 1, 1, none⟩ = some (.int .i64 0) := hs1.t2 1 (by omega)
    have m2 : w1.cell? ⟨w.heap.size + 1, 2, none⟩ = some (.int .i64 0) := hs1.t2 2 (by omega)
    have m3 : w1.cell? ⟨w.heap.size + 1, 3, none⟩ = some (.int .i64 0) := hs1.t2 3 (by omega)
    have m4 : w1.cell? ⟨w.heap.size + 1, 4, none⟩ = some (.int .i64 0) := hs1.t2 4 (by omega)
    have m5 : w1.cell? ⟨w.heap.size + 1, 5, none⟩ = some (.int .i64 0) := hs1.t2 5 (by omega)
    have mf : ∀ j, w1.frozen? ⟨w.heap.size + 1, j, none⟩ = false := hs1.f2
    have z0 : w1.cell? ⟨w.heap.size + 1 + 1, 0, none⟩ = some (.int .i64 (cntK 0 [])) := hs1.t3 0 (by omega)
    have z1 : w1.cell? ⟨w.heap.size + 1 + 1, 1, none⟩ = some (.int .i64 (cntK 1 [])) := hs1.t3 1 (by omega)
    have z2 : w1.cell? ⟨w.heap.size + 1 + 1, 2, none⟩ = some (.int .i64 (cntK 2 [])) := hs1.t3 2 (by omega)
    have z3 : w1.cell? ⟨w.heap.size + 1 + 1, 3, none⟩ = some (.int .i64 (cntK 3 [])) := hs1.t3 3 (by omega)
    have z4 : w1.cell? ⟨w.heap.size + 1 + 1, 4, none⟩ = some (.int .i64 (cntK 4 [])) := hs1.t3 4 (by omega)
    have z5 : w1.cell? ⟨w.heap.size + 1 + 1, 5, none⟩ = some (.int .i64 (cntK 5 [])) := hs1.t3 5 (by omega)
    have zf : ∀ j, w1.frozen? ⟨w.heap.size + 1 + 1, j, none⟩ = false := hs1.f3
    simp only [cntK] at z0 z1 z2 z3 z4 z5
    have hlt := hs1.lt
    clear Hx Hst Hka hs1 hb1 hp h8
    go_wp2
    exact bodyPost_ret (v := .tuple #[.agg #[.int .i64 0, .int .i64 0, .int .i64 0, .int .i64 0, .int .i64 0, .int .i64 0], .int .i64 1]) (by simp [results, Try.results34, go_sem, m0, m1, m2, m3, m4, m5]) rfl ⟨by simp [sixV, cntK], by repeat (first | with_reducible exact Below.refl _ _ | (with_reducible refine kSet ?_ ?hB _; case hB => (simp; try omega)) | with_reducible refine kAlloc ?_ _ | with_reducible refine Below.drew ?_ | with_reducible refine kDrewN ?_ _ | with_reducible refine kTrans ?_ (by assumption))⟩
  | true =>
    have hok := boardOk_ok HR.out.symm
    have h200 := boardOk_len HR.out.symm
    rw [Hn.out] at h200
    go_enter Try.func34, Try.ntmps34
    go_wp2_with fail
    refine Hx.out.mono ?_
    rintro e w1 ⟨rfl, hb1⟩
    have hs1 := Lib.hid (Hst.out.below hb1)
    have hb01 : Below w.heap.size w w1 := kTrans Hka.out hb1
    obtain ⟨k0, k1, k2⟩ := id hs1.out.t1
    simp only [Nat.zero_add] at k1 k2
    clear Hx Hst Hka hb1
    go_wp2
    go_loopw [5] (fun i wr => ∃ k : Nat, k ≤ n ∧ i = .int .i64 k ∧ Hid (CkSt wr w.heap.size wd hi (.slice (some ⟨b, o, none⟩) n cap) (l.take k)) ∧ Below w.heap.size w wr) (fun i _ => n - (intOf i).toNat)
    case atStart => exact ⟨0, by omega, rfl, hs1, hb01⟩
    case round =>
      obtain ⟨k, hk, rfl, hst, hbr⟩ := hrel
      clear k0 k1 k2 hs1 hb01
      obtain ⟨k0, k1, k2⟩ := id hst.out.t1
      simp only [Nat.zero_add] at k1 k2
      have hlw := hst.out.lt
      by_cases hlt : k < n
      · have hlk : k < l.length := by rw [Hn.out]; exact hlt
        have hpa := (hp.below hbr hb) k hlk
        have hpk := Pc.ok_kind (hok _ (List.getElem_mem hlk))
        have htk : l.take (k + 1) = l.take k ++ [l[k]] := List.take_succ_eq_append_getElem hlk
        generalize l[k] = p at hpa hpk htk
        have hll : (l.take k).length ≤ 200 := by rw [List.length_take]; omega
        generalize l.take k = t at hst hll htk
        have Htk := Lib.hid htk
        obtain ⟨a0, a1, a2, a3, a4⟩ := hpa
        have m0 : wr.cell? ⟨w.heap.size + 1, 0, none⟩ = some (.int .i64 0) := hst.out.t2 0 (by omega)
        have m1 : wr.cell? ⟨w.heap.size + 1, 1, none⟩ = some (.int .i64 0) := hst.out.t2 1 (by omega)
        have m2 : wr.cell? ⟨w.heap.size + 1, 2, none⟩ = some (.int .i64 0) := hst.out.t2 2 (by omega)
        have m3 : wr.cell? ⟨w.heap.size + 1, 3, none⟩ = some (.int .i64 0) := hst.out.t2 3 (by omega)
        have m4 : wr.cell? ⟨w.heap.size + 1, 4, none⟩ = some (.int .i64 0) := hst.out.t2 4 (by omega)
        have m5 : wr.cell? ⟨w.heap.size + 1, 5, none⟩ = some (.int .i64 0) := hst.out.t2 5 (by omega)
        have mf : ∀ j, wr.frozen? ⟨w.heap.size + 1, j, none⟩ = false := hst.out.f2
        have z0 : wr.cell? ⟨w.heap.size + 1 + 1, 0, none⟩ = some (.int .i64 (cntK 0 t)) := hst.out.t3 0 (by omega)
        have z1 : wr.cell? ⟨w.heap.size + 1 + 1, 1, none⟩ = some (.int .i64 (cntK 1 t)) := hst.out.t3 1 (by omega)
        have z2 : wr.cell? ⟨w.heap.size + 1 + 1, 2, none⟩ = some (.int .i64 (cntK 2 t)) := hst.out.t3 2 (by omega)
        have z3 : wr.cell? ⟨w.heap.size + 1 + 1, 3, none⟩ = some (.int .i64 (cntK 3 t)) := hst.out.t3 3 (by omega)
        have z4 : wr.cell? ⟨w.heap.size + 1 + 1, 4, none⟩ = some (.int .i64 (cntK 4 t)) := hst.out.t3 4 (by omega)
        have z5 : wr.cell? ⟨w.heap.size + 1 + 1, 5, none⟩ = some (.int .i64 (cntK 5 t)) := hst.out.t3 5 (by omega)
        have zf : ∀ j, wr.frozen? ⟨w.heap.size + 1 + 1, j, none⟩ = false := hst.out.f3
        clear hp hok h8 htk m0 m1 m2 m3 m4 m5 mf
        have hkk : p.kind = 0 ∨ p.kind = 1 ∨ p.kind = 2 ∨ p.kind = 3 ∨ p.kind = 4 ∨ p.kind = 5 := by omega
        clear hpk
        rcases hkk with e | e | e | e | e | e
        · have hz := cntK_le 0 t
          have HS : Hid (CkSt (wr.setCell ⟨w.heap.size + 1 + 1, 0, none⟩ (.int .i64 (cntK 0 t + 1))) w.heap.size wd hi (.slice (some ⟨b, o, none⟩) n cap) (l.take (k + 1))) := Lib.hid (by rw [Htk.out]; exact CkSt.store (hst.out) p 0 (by omega) e _ rfl)
          rw [e] at a2
          generalize cntK 0 t = z at z0 hz HS
          clear hst Htk
          go_wp2
          exact ⟨⟨k + 1, by omega, by go_num, HS, by repeat (first | with_reducible exact Below.refl _ _ | (with_reducible refine kSet ?_ ?hB _; case hB => (simp; try omega)) | with_reducible refine kAlloc ?_ _ | with_reducible refine Below.drew ?_ | with_reducible refine kDrewN ?_ _ | with_reducible refine kTrans ?_ (by assumption))⟩, by simp [intOf]; omega⟩
        · have hz := cntK_le 1 t
          have HS : Hid (CkSt (wr.setCell ⟨w.heap.size + 1 + 1, 1, none⟩ (.int .i64 (cntK 1 t + 1))) w.heap.size wd hi (.slice (some ⟨b, o, none⟩) n cap) (l.take (k + 1))) := Lib.hid (by rw [Htk.out]; exact CkSt.store (hst.out) p 1 (by omega) e _ rfl)
          rw [e] at a2
          generalize cntK 1 t = z at z1 hz HS
          clear hst Htk
          go_wp2
          exact ⟨⟨k + 1, by omega, by go_num, HS, by repeat (first | with_reducible exact Below.refl _ _ | (with_reducible refine kSet ?_ ?hB _; case hB => (simp; try omega)) | with_reducible refine kAlloc ?_ _ | with_reducible refine Below.drew ?_ | with_reducible refine kDrewN ?_ _ | with_reducible refine kTrans ?_ (by assumption))⟩, by simp [intOf]; omega⟩
        · have hz := cntK_le 2 t
          have HS : Hid (CkSt (wr.setCell ⟨w.heap.size + 1 + 1, 2, none⟩ (.int .i64 (cntK 2 t + 1))) w.heap.size wd hi (.slice (some ⟨b, o, none⟩) n cap) (l.take (k + 1))) := Lib.hid (by rw [Htk.out]; exact CkSt.store (hst.out) p 2 (by omega) e _ rfl)
          rw [e] at a2
          generalize cntK 2 t = z at z2 hz HS
          clear hst Htk
          go_wp2
          exact ⟨⟨k + 1, by omega, by go_num, HS, by repeat (first | with_reducible exact Below.refl _ _ | (with_reducible refine kSet ?_ ?hB _; case hB => (simp; try omega)) | with_reducible refine kAlloc ?_ _ | with_reducible refine Below.drew ?_ | with_reducible refine kDrewN ?_ _ | with_reducible refine kTrans ?_ (by assumption))⟩, by simp [intOf]; omega⟩
        · have hz := cntK_le 3 t
          have HS : Hid (CkSt (wr.setCell ⟨w.heap.size + 1 + 1, 3, none⟩ (.int .i64 (cntK 3 t + 1))) w.heap.size wd hi (.slice (some ⟨b, o, none⟩) n cap) (l.take (k + 1))) := Lib.hid (by rw [Htk.out]; exact CkSt.store (hst.out) p 3 (by omega) e _ rfl)
          rw [e] at a2
          generalize cntK 3 t = z at z3 hz HS
          clear hst Htk
          go_wp2
          exact ⟨⟨k + 1, by omega, by go_num, HS, by repeat (first | with_reducible exact Below.refl _ _ | (with_reducible refine kSet ?_ ?hB _; case hB => (simp; try omega)) | with_reducible refine kAlloc ?_ _ | with_reducible refine Below.drew ?_ | with_reducible refine kDrewN ?_ _ | with_reducible refine kTrans ?_ (by assumption))⟩, by simp [intOf]; omega⟩
        · have hz := cntK_le 4 t
          have HS : Hid (CkSt (wr.setCell ⟨w.heap.size + 1 + 1, 4, none⟩ (.int .i64 (cntK 4 t + 1))) w.heap.size wd hi (.slice (some ⟨b, o, none⟩) n cap) (l.take (k + 1))) := Lib.hid (by rw [Htk.out]; exact CkSt.store (hst.out) p 4 (by omega) e _ rfl)
          rw [e] at a2
          generalize cntK 4 t = z at z4 hz HS
          clear hst Htk
          go_wp2
          exact ⟨⟨k + 1, by omega, by go_num, HS, by repeat (first | with_reducible exact Below.refl _ _ | (with_reducible refine kSet ?_ ?hB _; case hB => (simp; try omega)) | with_reducible refine kAlloc ?_ _ | with_reducible refine Below.drew ?_ | with_reducible refine kDrewN ?_ _ | with_reducible refine kTrans ?_ (by assumption))⟩, by simp [intOf]; omega⟩
        · have hz := cntK_le 5 t
          have HS : Hid (CkSt (wr.setCell ⟨w.heap.size + 1 + 1, 5, none⟩ (.int .i64 (cntK 5 t + 1))) w.heap.size wd hi (.slice (some ⟨b, o, none⟩) n cap) (l.take (k + 1))) := Lib.hid (by rw [Htk.out]; exact CkSt.store (hst.out) p 5 (by omega) e _ rfl)
          rw [e] at a2
          generalize cntK 5 t = z at z5 hz HS
          clear hst Htk
          go_wp2
          exact ⟨⟨k + 1, by omega, by go_num, HS, by repeat (first | with_reducible exact Below.refl _ _ | (with_reducible refine kSet ?_ ?hB _; case hB => (simp; try omega)) | with_reducible refine kAlloc ?_ _ | with_reducible refine Below.drew ?_ | with_reducible refine kDrewN ?_ _ | with_reducible refine kTrans ?_ (by assumption))⟩, by simp [intOf]; omega⟩
      · have hs := hst.out
        rw [List.take_of_length_le (by rw [Hn.out]; omega)] at hs
        have m0 : wr.cell? ⟨w.heap.size + 1, 0, none⟩ = some (.int .i64 0) := hs.t2 0 (by omega)
        have m1 : wr.cell? ⟨w.heap.size + 1, 1, none⟩ = some (.int .i64 0) := hs.t2 1 (by omega)
        have m2 : wr.cell? ⟨w.heap.size + 1, 2, none⟩ = some (.int .i64 0) := hs.t2 2 (by omega)
        have m3 : wr.cell? ⟨w.heap.size + 1, 3, none⟩ = some (.int .i64 0) := hs.t2 3 (by omega)
        have m4 : wr.cell? ⟨w.heap.size + 1, 4, none⟩ = some (.int .i64 0) := hs.t2 4 (by omega)
        have m5 : wr.cell? ⟨w.heap.size + 1, 5, none⟩ = some (.int .i64 0) := hs.t2 5 (by omega)
        have mf : ∀ j, wr.frozen? ⟨w.heap.size + 1, j, none⟩ = false := hs.f2
        have z0 : wr.cell? ⟨w.heap.size + 1 + 1, 0, none⟩ = some (.int .i64 (cntK 0 l)) := hs.t3 0 (by omega)
        have z1 : wr.cell? ⟨w.heap.size + 1 + 1, 1, none⟩ = some (.int .i64 (cntK 1 l)) := hs.t3 1 (by omega)
        have z2 : wr.cell? ⟨w.heap.size + 1 + 1, 2, none⟩ = some (.int .i64 (cntK 2 l)) := hs.t3 2 (by omega)
        have z3 : wr.cell? ⟨w.heap.size + 1 + 1, 3, none⟩ = some (.int .i64 (cntK 3 l)) := hs.t3 3 (by omega)
        have z4 : wr.cell? ⟨w.heap.size + 1 + 1, 4, none⟩ = some (.int .i64 (cntK 4 l)) := hs.t3 4 (by omega)
        have z5 : wr.cell? ⟨w.heap.size + 1 + 1, 5, none⟩ = some (.int .i64 (cntK 5 l)) := hs.t3 5 (by omega)
        have zf : ∀ j, wr.frozen? ⟨w.heap.size + 1 + 1, j, none⟩ = false := hs.f3
        have hlt2 := hs.lt
        clear hp hok h8 hst hs
        go_wp2
        exact bodyPost_ret (v := .tuple #[sixV l, .int .i64 0]) (by simp [results, Try.results34, go_sem, m0, m1, m2, m3, m4, m5, sixV]) rfl ⟨by simp, by repeat (first | with_reducible exact Below.refl _ _ | (with_reducible refine kSet ?_ ?hB _; case hB => (simp; try omega)) | with_reducible refine kAlloc ?_ _ | with_reducible refine Below.drew ?_ | with_reducible refine kDrewN ?_ _ | with_reducible refine kTrans ?_ (by assumption))⟩
set_option maxRecDepth 100000 in
set_option maxHeartbeats 4000000 in
theorem implCountKinds_any (b o n cap : Nat) (wd hi : Int) (l : List Pc) (w : World) (hn : l.length = n) (hp : PcsAt w b o l) (hb : b < w.heap.size) (hc : n ≤ cap) (h8 : All8 l) (hw8 : i8 wd) (hh8 : i8 hi) (hmax : n ≤ 1048576) (R : Bool) (hR : R = boardOk wd hi l) :
    Calls Try.prog 35 #[.agg #[.int .i8 wd, .int .i8 hi, .slice (some ⟨b, o, none⟩) n cap]] w fun e w' => e = .returned (.tuple #[sixV (if R then l else []), .int .i64 (if R then 0 else 1)]) ∧ Below w.heap.size w w' := by
  have Hn := Lib.hid hn
  have hst := CkSt.start w wd hi (.slice (some ⟨b, o, none⟩) n cap) 30 51
  have hka : Below w.heap.size w (((w.alloc (.cells #[.int .i8 wd, .int .i8 hi, .slice (some ⟨b, o, none⟩) n cap] 30)).alloc (.cells #[.int .i64 0, .int .i64 0, .int .i64 0, .int .i64 0, .int .i64 0, .int .i64 0] 51)).alloc (.cells #[.int .i64 0, .int .i64 0, .int .i64 0, .int .i64 0, .int .i64 0, .int .i64 0] 51)) := by repeat (first | with_reducible exact Below.refl _ _ | (with_reducible refine kSet ?_ ?hB _; case hB => (simp; try omega)) | with_reducible refine kAlloc ?_ _ | with_reducible refine Below.drew ?_ | with_reducible refine kDrewN ?_ _ | with_reducible refine kTrans ?_ (by assumption))
  have hx := implValidBoard_any b o n cap wd hi l _ hn (hp.below hka hb) (Nat.lt_of_lt_of_le hb hka.size) hc h8 hmax R hR
  have Hx := Lib.hid hx
  have Hst := Lib.hid hst
  have Hka := Lib.hid hka
  have HR := Lib.hid hR
  clear hx hst hka hR hn
  cases R with
  | false =>
    go_enter Try.func35, Try.ntmps35
    go_wp2_with fail
    refine Hx.out.mono ?_
    rintro e w1 ⟨rfl, hb1⟩
    have hs1 := Hst.out.below hb1
    have hb01 : Below w.heap.size w w1 := kTrans Hka.out hb1
    have m0 : w1.cell? ⟨w.heap.size + 1, 0, none⟩ = some (.int .i64 0) := hs1.t2 0 (by omega)
    have m1 : w1.cell? ⟨w.heap.size + 1, 1, none⟩ = some (.int .i64 0) := hs1.t2 1 (by omega)
    have m2 : w1.cell? ⟨w.heap.size + 1, 2, none⟩ = some (.int .i64 0) := hs1.t2 2 (by omega)
    have m3 : w1.cell? ⟨w.heap.size + 1, 3, none⟩ = some (.int .i64 0) := hs1.t2 3 (by omega)
    have m4 : w1.cell? ⟨w.heap.size + 1, 4, none⟩ = some (.int .i64 0) := hs1.t2 4 (by omega)
    have m5 : w1.cell? ⟨w.heap.size + 1, 5, none⟩ = some (.int .i64 0) := hs1.t2 5 (by omega)
    have mf : ∀ j, w1.frozen? ⟨w.heap.size + 1, j, none⟩ = false := hs1.f2
    have z0 : w1.cell? ⟨w.heap.size + 1 + 1, 0, none⟩ = some (.int .i64 (cntK 0 [])) := hs1.t3 0 (by omega)
    have z1 : w1.cell? ⟨w.heap.size + 1 + 1, 1, none⟩ = some (.int .i64 (cntK 1 [])) := hs1.t3 1 (by omega)
    have z2 : w1.cell? ⟨w.heap.size + 1 + 1, 2, none⟩ = some (.int .i64 (cntK 2 [])) := hs1.t3 2 (by omega)
    have z3 : w1.cell? ⟨w.heap.size + 1 + 1, 3, none⟩ = some (.int .i64 (cntK 3 [])) := hs1.t3 3 (by omega)
    have z4 : w1.cell? ⟨w.heap.size + 1 + 1, 4, none⟩ = some (.int .i64 (cntK 4 [])) := hs1.t3 4 (by omega)
    have z5 : w1.cell? ⟨w.heap.size + 1 + 1, 5, none⟩ = some (.int .i64 (cntK 5 [])) := hs1.t3 5 (by omega)
    have zf : ∀ j, w1.frozen? ⟨w.heap.size + 1 + 1, j, none⟩ = false := hs1.f3
    simp only [cntK] at z0 z1 z2 z3 z4 z5
    have hlt := hs1.lt
    clear Hx Hst Hka hs1 hb1 hp h8
    go_wp2
    exact bodyPost_ret (v := .tuple #[.agg #[.int .i64 0, .int .i64 0, .int .i64 0, .int .i64 0, .int .i64 0, .int .i64 0], .int .i64 1]) (by simp [results, Try.results35, go_sem, m0, m1, m2, m3, m4, m5]) rfl ⟨by simp [sixV, cntK], by repeat (first | with_reducible exact Below.refl _ _ | (with_reducible refine kSet ?_ ?hB _; case hB => (simp; try omega)) | with_reducible refine kAlloc ?_ _ | with_reducible refine Below.drew ?_ | with_reducible refine kDrewN ?_ _ | with_reducible refine kTrans ?_ (by assumption))⟩
  | true =>
    have hok := boardOk_ok HR.out.symm
    have h200 := boardOk_len HR.out.symm
    rw [Hn.out] at h200
    go_enter Try.func35, Try.ntmps35
    go_wp2_with fail
    refine Hx.out.mono ?_
    rintro e w1 ⟨rfl, hb1⟩
    have hs1 := Lib.hid (Hst.out.below hb1)
    have hb01 : Below w.heap.size w w1 := kTrans Hka.out hb1
    obtain ⟨k0, k1, k2⟩ := id hs1.out.t1
    simp only [Nat.zero_add] at k1 k2
    clear Hx Hst Hka hb1
    go_wp2
    go_loopw [14] (fun i wr => ∃ k : Nat, k ≤ n ∧ i = .int .i64 k ∧ Hid (CkSt wr w.heap.size wd hi (.slice (some ⟨b, o, none⟩) n cap) (l.take k)) ∧ Below w.heap.size w wr) (fun i _ => n - (intOf i).toNat)
    case atStart => exact ⟨0, by omega, rfl, hs1, hb01⟩
    case round =>
      obtain ⟨k, hk, rfl, hst, hbr⟩ := hrel
      clear k0 k1 k2 hs1 hb01
      obtain ⟨k0, k1, k2⟩ := id hst.out.t1
      simp only [Nat.zero_add] at k1 k2
      have hlw := hst.out.lt
      by_cases hlt : k < n
      · have hlk : k < l.length := by rw [Hn.out]; exact hlt
        have hpa := (hp.below hbr hb) k hlk
        have hpk := Pc.ok_kind (hok _ (List.getElem_mem hlk))
        have htk : l.take (k + 1) = l.take k ++ [l[k]] := List.take_succ_eq_append_getElem hlk
        generalize l[k] = p at hpa hpk htk
        have hll : (l.take k).length ≤ 200 := by rw [List.length_take]; omega
        generalize l.take k = t at hst hll htk
        have Htk := Lib.hid htk
        obtain ⟨a0, a1, a2, a3, a4⟩ := hpa
        have m0 : wr.cell? ⟨w.heap.size + 1, 0, none⟩ = some (.int .i64 0) := hst.out.t2 0 (by omega)
        have m1 : wr.cell? ⟨w.heap.size + 1, 1, none⟩ = some (.int .i64 0) := hst.out.t2 1 (by omega)
        have m2 : wr.cell? ⟨w.heap.size + 1, 2, none⟩ = some (.int .i64 0) := hst.out.t2 2 (by omega)
        have m3 : wr.cell? ⟨w.heap.size + 1, 3, none⟩ = some (.int .i64 0) := hst.out.t2 3 (by omega)
        have m4 : wr.cell? ⟨w.heap.size + 1, 4, none⟩ = some (.int .i64 0) := hst.out.t2 4 (by omega)
        have m5 : wr.cell? ⟨w.heap.size + 1, 5, none⟩ = some (.int .i64 0) := hst.out.t2 5 (by omega)
        have mf : ∀ j, wr.frozen? ⟨w.heap.size + 1, j, none⟩ = false := hst.out.f2
        have z0 : wr.cell? ⟨w.heap.size + 1 + 1, 0, none⟩ = some (.int .i64 (cntK 0 t)) := hst.out.t3 0 (by omega)
        have z1 : wr.cell? ⟨w.heap.size + 1 + 1, 1, none⟩ = some (.int .i64 (cntK 1 t)) := hst.out.t3 1 (by omega)
        have z2 : wr.cell? ⟨w.heap.size + 1 + 1, 2, none⟩ = some (.int .i64 (cntK 2 t)) := hst.out.t3 2 (by omega)
        have z3 : wr.cell? ⟨w.heap.size + 1 + 1, 3, none⟩ = some (.int .i64 (cntK 3 t)) := hst.out.t3 3 (by omega)
        have z4 : wr.cell? ⟨w.heap.size + 1 + 1, 4, none⟩ = some (.int .i64 (cntK 4 t)) := hst.out.t3 4 (by omega)
        have z5 : wr.cell? ⟨w.heap.size + 1 + 1, 5, none⟩ = some (.int .i64 (cntK 5 t)) := hst.out.t3 5 (by omega)
        have zf : ∀ j, wr.frozen? ⟨w.heap.size + 1 + 1, j, none⟩ = false := hst.out.f3
        clear hp hok h8 htk m0 m1 m2 m3 m4 m5 mf
        have hkk : p.kind = 0 ∨ p.kind = 1 ∨ p.kind = 2 ∨ p.kind = 3 ∨ p.kind = 4 ∨ p.kind = 5 := by omega
        clear hpk
        rcases hkk with e | e | e | e | e | e
        · have hz := cntK_le 0 t
          have HS : Hid (CkSt (wr.setCell ⟨w.heap.size + 1 + 1, 0, none⟩ (.int .i64 (cntK 0 t + 1))) w.heap.size wd hi (.slice (some ⟨b, o, none⟩) n cap) (l.take (k + 1))) := Lib.hid (by rw [Htk.out]; exact CkSt.store (hst.out) p 0 (by omega) e _ rfl)
          rw [e] at a2
          generalize cntK 0 t = z at z0 hz HS
          clear hst Htk
          go_wp2
          exact ⟨⟨k + 1, by omega, by go_num, Lib.hid (CkSt.below HS.out (by repeat (first | with_reducible exact Below.refl _ _ | (with_reducible refine kSet ?_ ?hB _; case hB => (simp; try omega)) | with_reducible refine kAlloc ?_ _ | with_reducible refine Below.drew ?_ | with_reducible refine kDrewN ?_ _ | with_reducible refine kTrans ?_ (by assumption)))), by repeat (first | with_reducible exact Below.refl _ _ | (with_reducible refine kSet ?_ ?hB _; case hB => (simp; try omega)) | with_reducible refine kAlloc ?_ _ | with_reducible refine Below.drew ?_ | with_reducible refine kDrewN ?_ _ | with_reducible refine kTrans ?_ (by assumption))⟩, by simp [intOf]; omega⟩
        · have hz := cntK_le 1 t
          have HS : Hid (CkSt (wr.setCell ⟨w.heap.size + 1 + 1, 1, none⟩ (.int .i64 (cntK 1 t + 1))) w.heap.size wd hi (.slice (some ⟨b, o, none⟩) n cap) (l.take (k + 1))) := Lib.hid (by rw [Htk.out]; exact CkSt.store (hst.out) p 1 (by omega) e _ rfl)
          rw [e] at a2
          generalize cntK 1 t = z at z1 hz HS
          clear hst Htk
          go_wp2
          exact ⟨⟨k + 1, by omega, by go_num, Lib.hid (CkSt.below HS.out (by repeat (first | with_reducible exact Below.refl _ _ | (with_reducible refine kSet ?_ ?hB _; case hB => (simp; try omega)) | with_reducible refine kAlloc ?_ _ | with_reducible refine Below.drew ?_ | with_reducible refine kDrewN ?_ _ | with_reducible refine kTrans ?_ (by assumption)))), by repeat (first | with_reducible exact Below.refl _ _ | (with_reducible refine kSet ?_ ?hB _; case hB => (simp; try omega)) | with_reducible refine kAlloc ?_ _ | with_reducible refine Below.drew ?_ | with_reducible refine kDrewN ?_ _ | with_reducible refine kTrans ?_ (by assumption))⟩, by simp [intOf]; omega⟩
        · have hz := cntK_le 2 t
          have HS : Hid (CkSt (wr.setCell ⟨w.heap.size + 1 + 1, 2, none⟩ (.int .i64 (cntK 2 t + 1))) w.heap.size wd hi (.slice (some ⟨b, o, none⟩) n cap) (l.take (k + 1))) := Lib.hid (by rw [Htk.out]; exact CkSt.store (hst.out) p 2 (by omega) e _ rfl)
          rw [e] at a2
          generalize cntK 2 t = z at z2 hz HS
          clear hst Htk
          go_wp2
          exact ⟨⟨k + 1, by omega, by go_num, Lib.hid (CkSt.below HS.out (by repeat (first | with_reducible exact Below.refl _ _ | (with_reducible refine kSet ?_ ?hB _; case hB => (simp; try omega)) | with_reducible refine kAlloc ?_ _ | with_reducible refine Below.drew ?_ | with_reducible refine kDrewN ?_ _ | with_reducible refine kTrans ?_ (by assumption)))), by repeat (first | with_reducible exact Below.refl _ _ | (with_reducible refine kSet ?_ ?hB _; case hB => (simp; try omega)) | with_reducible refine kAlloc ?_ _ | with_reducible refine Below.drew ?_ | with_reducible refine kDrewN ?_ _ | with_reducible refine kTrans ?_ (by assumption))⟩, by simp [intOf]; omega⟩
        · have hz := cntK_le 3 t
          have HS : Hid (CkSt (wr.setCell ⟨w.heap.size + 1 + 1, 3, none⟩ (.int .i64 (cntK 3 t + 1))) w.heap.size wd hi (.slice (some ⟨b, o, none⟩) n cap) (l.take (k + 1))) := Lib.hid (by rw [Htk.out]; exact CkSt.store (hst.out) p 3 (by omega) e _ rfl)
          rw [e] at a2
          generalize cntK 3 t = z at z3 hz HS
          clear hst Htk
          go_wp2
          exact ⟨⟨k + 1, by omega, by go_num, Lib.hid (CkSt.below HS.out (by repeat (first | with_reducible exact Below.refl _ _ | (with_reducible refine kSet ?_ ?hB _; case hB => (simp; try omega)) | with_reducible refine kAlloc ?_ _ | with_reducible refine Below.drew ?_ | with_reducible refine kDrewN ?_ _ | with_reducible refine kTrans ?_ (by assumption)))), by repeat (first | with_reducible exact Below.refl _ _ | (with_reducible refine kSet ?_ ?hB _; case hB => (simp; try omega)) | with_reducible refine kAlloc ?_ _ | with_reducible refine Below.drew ?_ | with_reducible refine kDrewN ?_ _ | with_reducible refine kTrans ?_ (by assumption))⟩, by simp [intOf]; omega⟩
        · have hz := cntK_le 4 t
          have HS : Hid (CkSt (wr.setCell ⟨w.heap.size + 1 + 1, 4, none⟩ (.int .i64 (cntK 4 t + 1))) w.heap.size wd hi (.slice (some ⟨b, o, none⟩) n cap) (l.take (k + 1))) := Lib.hid (by rw [Htk.out]; exact CkSt.store (hst.out) p 4 (by omega) e _ rfl)
          rw [e] at a2
          generalize cntK 4 t = z at z4 hz HS
          clear hst Htk
          go_wp2
          exact ⟨⟨k + 1, by omega, by go_num, Lib.hid (CkSt.below HS.out (by repeat (first | with_reducible exact Below.refl _ _ | (with_reducible refine kSet ?_ ?hB _; case hB => (simp; try omega)) | with_reducible refine kAlloc ?_ _ | with_reducible refine Below.drew ?_ | with_reducible refine kDrewN ?_ _ | with_reducible refine kTrans ?_ (by assumption)))), by repeat (first | with_reducible exact Below.refl _ _ | (with_reducible refine kSet ?_ ?hB _; case hB => (simp; try omega)) | with_reducible refine kAlloc ?_ _ | with_reducible refine Below.drew ?_ | with_reducible refine kDrewN ?_ _ | with_reducible refine kTrans ?_ (by assumption))⟩, by simp [intOf]; omega⟩
        · have hz := cntK_le 5 t
          have HS : Hid (CkSt (wr.setCell ⟨w.heap.size + 1 + 1, 5, none⟩ (.int .i64 (cntK 5 t + 1))) w.heap.size wd hi (.slice (some ⟨b, o, none⟩) n cap) (l.take (k + 1))) := Lib.hid (by rw [Htk.out]; exact CkSt.store (hst.out) p 5 (by omega) e _ rfl)
          rw [e] at a2
          generalize cntK 5 t = z at z5 hz HS
          clear hst Htk
          go_wp2
          exact ⟨⟨k + 1, by omega, by go_num, Lib.hid (CkSt.below HS.out (by repeat (first | with_reducible exact Below.refl _ _ | (with_reducible refine kSet ?_ ?hB _; case hB => (simp; try omega)) | with_reducible refine kAlloc ?_ _ | with_reducible refine Below.drew ?_ | with_reducible refine kDrewN ?_ _ | with_reducible refine kTrans ?_ (by assumption)))), by repeat (first | with_reducible exact Below.refl _ _ | (with_reducible refine kSet ?_ ?hB _; case hB => (simp; try omega)) | with_reducible refine kAlloc ?_ _ | with_reducible refine Below.drew ?_ | with_reducible refine kDrewN ?_ _ | with_reducible refine kTrans ?_ (by assumption))⟩, by simp [intOf]; omega⟩
      · have hs := hst.out
        rw [List.take_of_length_le (by rw [Hn.out]; omega)] at hs
        have m0 : wr.cell? ⟨w.heap.size + 1, 0, none⟩ = some (.int .i64 0) := hs.t2 0 (by omega)
        have m1 : wr.cell? ⟨w.heap.size + 1, 1, none⟩ = some (.int .i64 0) := hs.t2 1 (by omega)
        have m2 : wr.cell? ⟨w.heap.size + 1, 2, none⟩ = some (.int .i64 0) := hs.t2 2 (by omega)
        have m3 : wr.cell? ⟨w.heap.size + 1, 3, none⟩ = some (.int .i64 0) := hs.t2 3 (by omega)
        have m4 : wr.cell? ⟨w.heap.size + 1, 4, none⟩ = some (.int .i64 0) := hs.t2 4 (by omega)
        have m5 : wr.cell? ⟨w.heap.size + 1, 5, none⟩ = some (.int .i64 0) := hs.t2 5 (by omega)
        have mf : ∀ j, wr.frozen? ⟨w.heap.size + 1, j, none⟩ = false := hs.f2
        have z0 : wr.cell? ⟨w.heap.size + 1 + 1, 0, none⟩ = some (.int .i64 (cntK 0 l)) := hs.t3 0 (by omega)
        have z1 : wr.cell? ⟨w.heap.size + 1 + 1, 1, none⟩ = some (.int .i64 (cntK 1 l)) := hs.t3 1 (by omega)
        have z2 : wr.cell? ⟨w.heap.size + 1 + 1, 2, none⟩ = some (.int .i64 (cntK 2 l)) := hs.t3 2 (by omega)
        have z3 : wr.cell? ⟨w.heap.size + 1 + 1, 3, none⟩ = some (.int .i64 (cntK 3 l)) := hs.t3 3 (by omega)
        have z4 : wr.cell? ⟨w.heap.size + 1 + 1, 4, none⟩ = some (.int .i64 (cntK 4 l)) := hs.t3 4 (by omega)
        have z5 : wr.cell? ⟨w.heap.size + 1 + 1, 5, none⟩ = some (.int .i64 (cntK 5 l)) := hs.t3 5 (by omega)
        have zf : ∀ j, wr.frozen? ⟨w.heap.size + 1 + 1, j, none⟩ = false := hs.f3
        have hlt2 := hs.lt
        clear hp hok h8 hst hs
        go_wp2
        exact bodyPost_ret (v := .tuple #[sixV l, .int .i64 0]) (by simp [results, Try.results35, go_sem, m0, m1, m2, m3, m4, m5, sixV]) rfl ⟨by simp, by repeat (first | with_reducible exact Below.refl _ _ | (with_reducible refine kSet ?_ ?hB _; case hB => (simp; try omega)) | with_reducible refine kAlloc ?_ _ | with_reducible refine Below.drew ?_ | with_reducible refine kDrewN ?_ _ | with_reducible refine kTrans ?_ (by assumption))⟩
set_option maxHeartbeats 2000000 in
theorem eqInt64A6_same (a b c d e f : Int) (w : World) :
    Calls Try.prog 36 #[.agg #[.int .i64 a, .int .i64 b, .int .i64 c, .int .i64 d, .int .i64 e, .int .i64 f], .agg #[.int .i64 a, .int .i64 b, .int .i64 c, .int .i64 d, .int .i64 e, .int .i64 f]] w fun e w' => e = .returned (.bool true) ∧ Below w.heap.size w w' := by
  go_enter Try.func36, Try.ntmps36
  go_wp2
  refine wp_loop_rounds 7 ?_
  rw [rounds_succ]
  go_wp2
  go_quiet (fail)
  go_wp2
  rw [rounds_succ]
  go_wp2
  go_quiet (fail)
  go_wp2
  rw [rounds_succ]
  go_wp2
  go_quiet (fail)
  go_wp2
  rw [rounds_succ]
  go_wp2
  go_quiet (fail)
  go_wp2
  rw [rounds_succ]
  go_wp2
  go_quiet (fail)
  go_wp2
  rw [rounds_succ]
  go_wp2
  go_quiet (fail)
  go_wp2
  rw [rounds_succ]
  go_wp2
  go_ret
  exact ⟨rfl, by repeat (first | with_reducible exact Below.refl _ _ | (with_reducible refine kSet ?_ ?hB _; case hB => (simp; try omega)) | with_reducible refine kAlloc ?_ _ | with_reducible refine Below.drew ?_ | with_reducible refine kDrewN ?_ _ | with_reducible refine kTrans ?_ (by assumption))⟩
end Go.Proofs.Ythancdlkkfegnaa
