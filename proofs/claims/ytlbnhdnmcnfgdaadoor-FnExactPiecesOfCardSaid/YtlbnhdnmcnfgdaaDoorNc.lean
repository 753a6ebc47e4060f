/- CountNodes: the program and the model. -/
import Derived.Test.YtlbnhdnmcnfgdaaDoorNv2
namespace Go.Proofs.YtlbnhdnmcnfgdaaDoor
open Go.ChangeShapes Go.WideShapes Go.ChangeAt Go.RowKit
set_option linter.unusedVariables false
set_option linter.unusedSimpArgs false

theorem netOk_parts {ni : Int} {l : List Nd} {p : List Int} (h : netOk ni l p = true) : (1 ≤ ni ∧ ni ≤ 6) ∧ (1 ≤ l.length ∧ l.length ≤ 80) ∧ (1 ≤ p.length ∧ p.length ≤ 8) ∧ nodesOk ni l 0 = true ∧ outsOkN l.length p = true := by
  unfold netOk at h
  simp only [Bool.and_eq_true, decide_eq_true_eq] at h
  exact ⟨h.1.1.1.1, h.1.1.1.2, h.1.1.2, h.1.2, h.2⟩
theorem nodesOk_all {ni : Int} : ∀ {l : List Nd} {k : Nat}, nodesOk ni l k = true → ∀ (i : Nat) (h : i < l.length), nodeOk ni (k + i) l[i] = true
  | x :: l, k, h, 0, _ => by simp only [nodesOk, Bool.and_eq_true] at h; exact h.1
  | x :: l, k, h, i + 1, hi => by
    simp only [nodesOk, Bool.and_eq_true] at h
    have := nodesOk_all h.2 i (by simpa using hi)
    simpa [Nat.add_assoc, Nat.add_comm 1 i] using this
theorem nodeOk_cases {ni : Int} {k : Nat} {x : Nd} (h : nodeOk ni k x = true) : (x.kind = 0 ∧ (0 ≤ x.a ∧ x.a < ni) ∧ x.b = 0) ∨ (x.kind = 1 ∧ x.a = 0 ∧ x.b = 0) ∨ ((x.kind = 2 ∨ x.kind = 3) ∧ (0 ≤ x.a ∧ x.a < k) ∧ 0 ≤ x.b ∧ x.b < k) := by
  unfold nodeOk at h
  split at h
  · rename_i e; exact .inl ⟨e, of_decide_eq_true h⟩
  · split at h
    · rename_i e; exact .inr (.inl ⟨e, of_decide_eq_true h⟩)
    · split at h
      · rename_i e; exact .inr (.inr ⟨e, of_decide_eq_true h⟩)
      · cases h
theorem netOk_node {ni : Int} {l : List Nd} {p : List Int} (h : netOk ni l p = true) (i : Nat) (hi : i < l.length) : nodeOk ni i l[i] = true := by
  have := nodesOk_all (netOk_parts h).2.2.2.1 i hi
  rwa [Nat.zero_add] at this
theorem netOk_kinds {ni : Int} {l : List Nd} {p : List Int} (h : netOk ni l p = true) : ∀ x ∈ l, 0 ≤ x.kind ∧ x.kind ≤ 3 := by
  intro x hx
  obtain ⟨i, hi, rfl⟩ := List.mem_iff_getElem.1 hx
  rcases nodeOk_cases (netOk_node h i hi) with h | h | h <;> omega
theorem outsOkN_all {n : Nat} : ∀ {p : List Int}, outsOkN n p = true → ∀ x ∈ p, 0 ≤ x ∧ x < n
  | y :: p, h, x, hx => by
    simp only [outsOkN, Bool.and_eq_true, decide_eq_true_eq] at h
    rcases List.mem_cons.1 hx with rfl | hx
    · exact h.1
    · exact outsOkN_all h.2 x hx
/-- how many pieces are of a kind -/
def cntN (j : Int) : List Nd → Int
  | [] => 0
  | p :: l => cntN j l + (if p.kind = j then 1 else 0)
theorem cntN_snoc (j : Int) (p : Nd) : ∀ l : List Nd, cntN j (l ++ [p]) = cntN j l + (if p.kind = j then 1 else 0)
  | [] => by simp [cntN]
  | q :: l => by simp only [List.cons_append, cntN, cntN_snoc j p l]; omega
theorem cntN_le (j : Int) : ∀ l : List Nd, 0 ≤ cntN j l ∧ cntN j l ≤ l.length
  | [] => by simp [cntN]
  | q :: l => by have := cntN_le j l; simp only [cntN, List.length_cons]; split <;> omega
/-- six numbers in a row of cells -/
def FourAt (w : World) (b : Nat) (l : List Nd) : Prop := ∀ j : Nat, j < 4 → w.cell? ⟨b, j, none⟩ = some (.int .i64 (cntN j l))
def fourV (l : List Nd) : Value := .agg #[.int .i64 (cntN 0 l), .int .i64 (cntN 1 l), .int .i64 (cntN 2 l), .int .i64 (cntN 3 l)]
/-- the call's boxes: the board's, the result's, the counts' -/
structure CnSt (wr : World) (s : Nat) (ni : Int) (v u : Value) (l : List Nd) : Prop where
  t1 : NwAt wr s ni v u
  t2 : ∀ j : Nat, j < 4 → wr.cell? ⟨s + 1, j, none⟩ = some (.int .i64 0)
  f2 : ∀ j, wr.frozen? ⟨s + 1, j, none⟩ = false
  t3 : FourAt wr (s + 1 + 1) l
  f3 : ∀ j, wr.frozen? ⟨s + 1 + 1, j, none⟩ = false
  lt : s + 1 + 1 < wr.heap.size
theorem CnSt.below {wr w' : World} {s : Nat} {ni : Int} {v u : Value} {l : List Nd} (h : CnSt wr s ni v u l) (hb : Below wr.heap.size wr w') : CnSt w' s ni v u l :=
  have hl := h.lt
  ⟨h.t1.below hb (by omega), fun j hj => (hb.cell (p := ⟨s + 1, j, none⟩) (by simp; omega)).trans (h.t2 j hj), fun j => (hb.frozen (p := ⟨s + 1, j, none⟩) (by simp; omega)).trans (h.f2 j),
    fun j hj => (hb.cell (p := ⟨s + 1 + 1, j, none⟩) hl).trans (h.t3 j hj), fun j => (hb.frozen (p := ⟨s + 1 + 1, j, none⟩) hl).trans (h.f3 j), Nat.lt_of_lt_of_le hl hb.size⟩
theorem CnSt.store {wr : World} {s : Nat} {ni : Int} {v u : Value} {l : List Nd} (h : CnSt wr s ni v u l) (p : Nd) (j : Nat) (hj : j < 4) (hp : p.kind = j) (z : Int) (hz : z = cntN j l + 1) : CnSt (wr.setCell ⟨s + 1 + 1, j, none⟩ (.int .i64 z)) s ni v u (l ++ [p]) := by
  have ne : ∀ (b i : Nat), b ≠ s + 1 + 1 → (⟨s + 1 + 1, j, none⟩ : Addr) ≠ ⟨b, i, none⟩ := by intro b i hb e; injection e with h1 _ _; exact hb h1.symm
  obtain ⟨⟨h0, h1, h2⟩, t2, f2, t3, f3, lt⟩ := h
  refine ⟨⟨?_, ?_, ?_⟩, fun i hi => ?_, fun i => ?_, fun i hi => ?_, fun i => ?_, by simpa [World.size_setCell] using lt⟩
  · rw [World.cell?_setCell_other _ _ _ _ (ne _ _ (by omega))]; exact h0
  · rw [World.cell?_setCell_other _ _ _ _ (ne _ _ (by omega))]; exact h1
  · rw [World.cell?_setCell_other _ _ _ _ (ne _ _ (by omega))]; exact h2
  · rw [World.cell?_setCell_other _ _ _ _ (ne _ _ (by omega))]; exact t2 i hi
  · rw [World.frozen?_setCell]; exact f2 i
  · rw [cntN_snoc, hp]
    by_cases e : i = j
    · subst e
      rw [World.cell?_setCell_same _ _ _ (t3 i hi), hz, if_pos rfl]
    · rw [World.cell?_setCell_other _ _ _ _ (by intro e2; injection e2 with _ h2 _; exact e h2.symm), if_neg (by omega), Int.add_zero]; exact t3 i hi
  · rw [World.frozen?_setCell]; exact f3 i
theorem CnSt.start (w : World) (ni : Int) (v u : Value) (t t6 : TypeId) : CnSt (((w.alloc (.cells #[.int .i8 ni, v, u] t)).alloc (.cells #[.int .i64 0, .int .i64 0, .int .i64 0, .int .i64 0] t6)).alloc (.cells #[.int .i64 0, .int .i64 0, .int .i64 0, .int .i64 0] t6)) w.heap.size ni v u [] := by
  have b1 : Below (w.alloc (.cells #[.int .i8 ni, v, u] t)).heap.size (w.alloc (.cells #[.int .i8 ni, v, u] t)) (((w.alloc (.cells #[.int .i8 ni, v, u] t)).alloc (.cells #[.int .i64 0, .int .i64 0, .int .i64 0, .int .i64 0] t6)).alloc (.cells #[.int .i64 0, .int .i64 0, .int .i64 0, .int .i64 0] t6)) := kAlloc (kAlloc (Below.refl _ _) _) _
  have b2 : Below ((w.alloc (.cells #[.int .i8 ni, v, u] t)).alloc (.cells #[.int .i64 0, .int .i64 0, .int .i64 0, .int .i64 0] t6)).heap.size ((w.alloc (.cells #[.int .i8 ni, v, u] t)).alloc (.cells #[.int .i64 0, .int .i64 0, .int .i64 0, .int .i64 0] t6)) (((w.alloc (.cells #[.int .i8 ni, v, u] t)).alloc (.cells #[.int .i64 0, .int .i64 0, .int .i64 0, .int .i64 0] t6)).alloc (.cells #[.int .i64 0, .int .i64 0, .int .i64 0, .int .i64 0] t6)) := kAlloc (Below.refl _ _) _
  have six : ∀ (x : World) (j : Nat), j < 4 → (x.alloc (.cells #[.int .i64 0, .int .i64 0, .int .i64 0, .int .i64 0] t6)).cell? ⟨x.heap.size, j, none⟩ = some (.int .i64 0) := by
    intro x j hj
    have : j = 0 ∨ j = 1 ∨ j = 2 ∨ j = 3 := by omega
    rcases this with rfl | rfl | rfl | rfl <;> simp
  have frz : ∀ (x : World) (j : Nat), (x.alloc (.cells #[.int .i64 0, .int .i64 0, .int .i64 0, .int .i64 0] t6)).frozen? ⟨x.heap.size, j, none⟩ = false := fun x j => frozen_of_row _ _ j _ _ (heap_alloc_new _ _)
  have e1 : (w.alloc (.cells #[.int .i8 ni, v, u] t)).heap.size = w.heap.size + 1 := by simp
  have e2 : ((w.alloc (.cells #[.int .i8 ni, v, u] t)).alloc (.cells #[.int .i64 0, .int .i64 0, .int .i64 0, .int .i64 0] t6)).heap.size = w.heap.size + 1 + 1 := by simp
  refine ⟨(NwAt.box w ni v u t).below b1 (by simp), fun j hj => ?_, fun j => ?_, fun j hj => ?_, fun j => ?_, by simp⟩
  · have := six (w.alloc (.cells #[.int .i8 ni, v, u] t)) j hj
    rw [e1] at this
    exact (b2.cell (p := ⟨w.heap.size + 1, j, none⟩) (by simp)).trans this
  · have := frz (w.alloc (.cells #[.int .i8 ni, v, u] t)) j
    rw [e1] at this
    exact (b2.frozen (p := ⟨w.heap.size + 1, j, none⟩) (by simp)).trans this
  · have := six ((w.alloc (.cells #[.int .i8 ni, v, u] t)).alloc (.cells #[.int .i64 0, .int .i64 0, .int .i64 0, .int .i64 0] t6)) j hj
    rw [e2] at this
    exact this
  · have := frz ((w.alloc (.cells #[.int .i8 ni, v, u] t)).alloc (.cells #[.int .i64 0, .int .i64 0, .int .i64 0, .int .i64 0] t6)) j
    rw [e2] at this
    exact this

set_option maxRecDepth 100000 in
set_option maxHeartbeats 4000000 in
theorem specCountNodes_any (b kb n q : Nat) (ni : Int) (l : List Nd) (p : List Int) (w : World) (hn : l.length = n) (hq : p.length = q) (h : NK w b kb l p) (h8 : NdsWf l) (h9 : ShsWf p) (bw : i8 ni) (mm0 : n ≤ 1048576) (mm1 : q ≤ 1048576) (R : Bool) (hR : R = netOk ni l p) :
    Calls Tryd.prog 17 #[.agg #[.int .i8 ni, .slice (some ⟨b, 0, none⟩) n n, .slice (some ⟨kb, 0, none⟩) q q]] w fun e w' => e = .returned (.tuple #[fourV (if R then l else []), .int .i64 (if R then 0 else 1)]) ∧ Below w.heap.size w w' := by
  have Hn := Lib.hid hn
  have hst := CnSt.start w ni (.slice (some ⟨b, 0, none⟩) n n) (.slice (some ⟨kb, 0, none⟩) q q) 32 40
  have hka : Below w.heap.size w (((w.alloc (.cells #[.int .i8 ni, .slice (some ⟨b, 0, none⟩) n n, .slice (some ⟨kb, 0, none⟩) q q] 32)).alloc (.cells #[.int .i64 0, .int .i64 0, .int .i64 0, .int .i64 0] 40)).alloc (.cells #[.int .i64 0, .int .i64 0, .int .i64 0, .int .i64 0] 40)) := by repeat (first | with_reducible exact Below.refl _ _ | (with_reducible refine kSet ?_ ?hB _; case hB => (simp; try omega)) | with_reducible refine kAlloc ?_ _ | with_reducible refine Below.drew ?_ | with_reducible refine kDrewN ?_ _ | with_reducible refine kTrans ?_ (by assumption))
  have hx := l04Ok_any w.heap.size b kb ni l p _ (by rw [hn, hq]; exact hst.t1) (h.below hka) h8 h9 bw (by omega) (by omega) R hR
  have Hx := Lib.hid hx
  have Hst := Lib.hid hst
  have Hka := Lib.hid hka
  have HR := Lib.hid hR
  clear hx hst hka hR hn hq
  cases R with
  | false =>
    go_enter Tryd.func17, Tryd.ntmps17
    go_wp2_with fail
    refine Hx.out.mono ?_
    rintro e w1 ⟨rfl, hb1⟩
    have hs1 := Hst.out.below hb1
    have hb01 : Below w.heap.size w w1 := kTrans Hka.out hb1
    have m0 : w1.cell? ⟨w.heap.size + 1, 0, none⟩ = some (.int .i64 0) := hs1.t2 0 (by omega)
    have m1 : w1.cell? ⟨w.heap.size + 1, 1, none⟩ = some (.int .i64 0) := hs1.t2 1 (by omega)
    have m2 : w1.cell? ⟨w.heap.size + 1, 2, none⟩ = some (.int .i64 0) := hs1.t2 2 (by omega)
    have m3 : w1.cell? ⟨w.heap.size + 1, 3, none⟩ = some (.int .i64 0) := hs1.t2 3 (by omega)
    have mf : ∀ j, w1.frozen? ⟨w.heap.size + 1, j, none⟩ = false := hs1.f2
    have z0 : w1.cell? ⟨w.heap.size + 1 + 1, 0, none⟩ = some (.int .i64 (cntN 0 [])) := hs1.t3 0 (by omega)
    have z1 : w1.cell? ⟨w.heap.size + 1 + 1, 1, none⟩ = some (.int .i64 (cntN 1 [])) := hs1.t3 1 (by omega)
    have z2 : w1.cell? ⟨w.heap.size + 1 + 1, 2, none⟩ = some (.int .i64 (cntN 2 [])) := hs1.t3 2 (by omega)
    have z3 : w1.cell? ⟨w.heap.size + 1 + 1, 3, none⟩ = some (.int .i64 (cntN 3 [])) := hs1.t3 3 (by omega)
    have zf : ∀ j, w1.frozen? ⟨w.heap.size + 1 + 1, j, none⟩ = false := hs1.f3
    simp only [cntN] at z0 z1 z2 z3
    have hlt := hs1.lt
    clear Hx Hst Hka hs1 hb1 h h8 h9
    go_wp2
    exact bodyPost_ret (v := .tuple #[.agg #[.int .i64 0, .int .i64 0, .int .i64 0, .int .i64 0], .int .i64 1]) (by simp [results, Tryd.results17, go_sem, m0, m1, m2, m3]) rfl ⟨by simp [fourV, cntN], by repeat (first | with_reducible exact Below.refl _ _ | (with_reducible refine kSet ?_ ?hB _; case hB => (simp; try omega)) | with_reducible refine kAlloc ?_ _ | with_reducible refine Below.drew ?_ | with_reducible refine kDrewN ?_ _ | with_reducible refine kTrans ?_ (by assumption))⟩
  | true =>
    have hok := netOk_kinds HR.out.symm
    have h200 := (netOk_parts HR.out.symm).2.1.2
    rw [Hn.out] at h200
    go_enter Tryd.func17, Tryd.ntmps17
    go_wp2_with fail
    refine Hx.out.mono ?_
    rintro e w1 ⟨rfl, hb1⟩
    have hs1 := Lib.hid (Hst.out.below hb1)
    have hb01 : Below w.heap.size w w1 := kTrans Hka.out hb1
    obtain ⟨k0, k1, k2⟩ := id hs1.out.t1
    clear Hx Hst Hka hb1
    go_wp2
    go_loopw [5] (fun i wr => ∃ k : Nat, k ≤ n ∧ i = .int .i64 k ∧ Hid (CnSt wr w.heap.size ni (.slice (some ⟨b, 0, none⟩) n n) (.slice (some ⟨kb, 0, none⟩) q q) (l.take k)) ∧ Below w.heap.size w wr) (fun i _ => n - (intOf i).toNat)
    case atStart => exact ⟨0, by omega, rfl, hs1, hb01⟩
    case round =>
      obtain ⟨k, hk, rfl, hst, hbr⟩ := hrel
      clear k0 k1 k2 hs1 hb01
      obtain ⟨k0, k1, k2⟩ := id hst.out.t1
      have hlw := hst.out.lt
      by_cases hlt : k < n
      · have hlk : k < l.length := by rw [Hn.out]; exact hlt
        have hpa := (h.below hbr).p0 k hlk
        have hpk := hok _ (List.getElem_mem hlk)
        have htk : l.take (k + 1) = l.take k ++ [l[k]] := List.take_succ_eq_append_getElem hlk
        generalize l[k] = p at hpa hpk htk
        have hll : (l.take k).length ≤ 200 := by rw [List.length_take]; omega
        generalize l.take k = t at hst hll htk
        have Htk := Lib.hid htk
        obtain ⟨a0, a1, a2⟩ := hpa
        simp only [Nat.zero_add] at a0 a1 a2
        have m0 : wr.cell? ⟨w.heap.size + 1, 0, none⟩ = some (.int .i64 0) := hst.out.t2 0 (by omega)
        have m1 : wr.cell? ⟨w.heap.size + 1, 1, none⟩ = some (.int .i64 0) := hst.out.t2 1 (by omega)
        have m2 : wr.cell? ⟨w.heap.size + 1, 2, none⟩ = some (.int .i64 0) := hst.out.t2 2 (by omega)
        have m3 : wr.cell? ⟨w.heap.size + 1, 3, none⟩ = some (.int .i64 0) := hst.out.t2 3 (by omega)
        have mf : ∀ j, wr.frozen? ⟨w.heap.size + 1, j, none⟩ = false := hst.out.f2
        have z0 : wr.cell? ⟨w.heap.size + 1 + 1, 0, none⟩ = some (.int .i64 (cntN 0 t)) := hst.out.t3 0 (by omega)
        have z1 : wr.cell? ⟨w.heap.size + 1 + 1, 1, none⟩ = some (.int .i64 (cntN 1 t)) := hst.out.t3 1 (by omega)
        have z2 : wr.cell? ⟨w.heap.size + 1 + 1, 2, none⟩ = some (.int .i64 (cntN 2 t)) := hst.out.t3 2 (by omega)
        have z3 : wr.cell? ⟨w.heap.size + 1 + 1, 3, none⟩ = some (.int .i64 (cntN 3 t)) := hst.out.t3 3 (by omega)
        have zf : ∀ j, wr.frozen? ⟨w.heap.size + 1 + 1, j, none⟩ = false := hst.out.f3
        have hlz := (h.below hbr).z0
        clear h hok h8 h9 htk m0 m1 m2 m3 mf
        have hkk : p.kind = 0 ∨ p.kind = 1 ∨ p.kind = 2 ∨ p.kind = 3 := by omega
        clear hpk
        rcases hkk with e | e | e | e
        · have hz := cntN_le 0 t
          have HS : Hid (CnSt (wr.setCell ⟨w.heap.size + 1 + 1, 0, none⟩ (.int .i64 (cntN 0 t + 1))) w.heap.size ni (.slice (some ⟨b, 0, none⟩) n n) (.slice (some ⟨kb, 0, none⟩) q q) (l.take (k + 1))) := Lib.hid (by rw [Htk.out]; exact CnSt.store (hst.out) p 0 (by omega) e _ rfl)
          rw [e] at a0
          generalize cntN 0 t = z at z0 hz HS
          clear hst Htk
          go_wp2
          exact ⟨⟨k + 1, by omega, by go_num, HS, by repeat (first | with_reducible exact Below.refl _ _ | (with_reducible refine kSet ?_ ?hB _; case hB => (simp; try omega)) | with_reducible refine kAlloc ?_ _ | with_reducible refine Below.drew ?_ | with_reducible refine kDrewN ?_ _ | with_reducible refine kTrans ?_ (by assumption))⟩, by simp [intOf]; omega⟩
        · have hz := cntN_le 1 t
          have HS : Hid (CnSt (wr.setCell ⟨w.heap.size + 1 + 1, 1, none⟩ (.int .i64 (cntN 1 t + 1))) w.heap.size ni (.slice (some ⟨b, 0, none⟩) n n) (.slice (some ⟨kb, 0, none⟩) q q) (l.take (k + 1))) := Lib.hid (by rw [Htk.out]; exact CnSt.store (hst.out) p 1 (by omega) e _ rfl)
          rw [e] at a0
          generalize cntN 1 t = z at z1 hz HS
          clear hst Htk
          go_wp2
          exact ⟨⟨k + 1, by omega, by go_num, HS, by repeat (first | with_reducible exact Below.refl _ _ | (with_reducible refine kSet ?_ ?hB _; case hB => (simp; try omega)) | with_reducible refine kAlloc ?_ _ | with_reducible refine Below.drew ?_ | with_reducible refine kDrewN ?_ _ | with_reducible refine kTrans ?_ (by assumption))⟩, by simp [intOf]; omega⟩
        · have hz := cntN_le 2 t
          have HS : Hid (CnSt (wr.setCell ⟨w.heap.size + 1 + 1, 2, none⟩ (.int .i64 (cntN 2 t + 1))) w.heap.size ni (.slice (some ⟨b, 0, none⟩) n n) (.slice (some ⟨kb, 0, none⟩) q q) (l.take (k + 1))) := Lib.hid (by rw [Htk.out]; exact CnSt.store (hst.out) p 2 (by omega) e _ rfl)
          rw [e] at a0
          generalize cntN 2 t = z at z2 hz HS
          clear hst Htk
          go_wp2
          exact ⟨⟨k + 1, by omega, by go_num, HS, by repeat (first | with_reducible exact Below.refl _ _ | (with_reducible refine kSet ?_ ?hB _; case hB => (simp; try omega)) | with_reducible refine kAlloc ?_ _ | with_reducible refine Below.drew ?_ | with_reducible refine kDrewN ?_ _ | with_reducible refine kTrans ?_ (by assumption))⟩, by simp [intOf]; omega⟩
        · have hz := cntN_le 3 t
          have HS : Hid (CnSt (wr.setCell ⟨w.heap.size + 1 + 1, 3, none⟩ (.int .i64 (cntN 3 t + 1))) w.heap.size ni (.slice (some ⟨b, 0, none⟩) n n) (.slice (some ⟨kb, 0, none⟩) q q) (l.take (k + 1))) := Lib.hid (by rw [Htk.out]; exact CnSt.store (hst.out) p 3 (by omega) e _ rfl)
          rw [e] at a0
          generalize cntN 3 t = z at z3 hz HS
          clear hst Htk
          go_wp2
          exact ⟨⟨k + 1, by omega, by go_num, HS, by repeat (first | with_reducible exact Below.refl _ _ | (with_reducible refine kSet ?_ ?hB _; case hB => (simp; try omega)) | with_reducible refine kAlloc ?_ _ | with_reducible refine Below.drew ?_ | with_reducible refine kDrewN ?_ _ | with_reducible refine kTrans ?_ (by assumption))⟩, by simp [intOf]; omega⟩
      · have hs := hst.out
        rw [List.take_of_length_le (by rw [Hn.out]; omega)] at hs
        have m0 : wr.cell? ⟨w.heap.size + 1, 0, none⟩ = some (.int .i64 0) := hs.t2 0 (by omega)
        have m1 : wr.cell? ⟨w.heap.size + 1, 1, none⟩ = some (.int .i64 0) := hs.t2 1 (by omega)
        have m2 : wr.cell? ⟨w.heap.size + 1, 2, none⟩ = some (.int .i64 0) := hs.t2 2 (by omega)
        have m3 : wr.cell? ⟨w.heap.size + 1, 3, none⟩ = some (.int .i64 0) := hs.t2 3 (by omega)
        have mf : ∀ j, wr.frozen? ⟨w.heap.size + 1, j, none⟩ = false := hs.f2
        have z0 : wr.cell? ⟨w.heap.size + 1 + 1, 0, none⟩ = some (.int .i64 (cntN 0 l)) := hs.t3 0 (by omega)
        have z1 : wr.cell? ⟨w.heap.size + 1 + 1, 1, none⟩ = some (.int .i64 (cntN 1 l)) := hs.t3 1 (by omega)
        have z2 : wr.cell? ⟨w.heap.size + 1 + 1, 2, none⟩ = some (.int .i64 (cntN 2 l)) := hs.t3 2 (by omega)
        have z3 : wr.cell? ⟨w.heap.size + 1 + 1, 3, none⟩ = some (.int .i64 (cntN 3 l)) := hs.t3 3 (by omega)
        have zf : ∀ j, wr.frozen? ⟨w.heap.size + 1 + 1, j, none⟩ = false := hs.f3
        have hlt2 := hs.lt
        clear h hok h8 h9 hst hs
        go_wp2
        exact bodyPost_ret (v := .tuple #[fourV l, .int .i64 0]) (by simp [results, Tryd.results17, go_sem, m0, m1, m2, m3, fourV]) rfl ⟨by simp, by repeat (first | with_reducible exact Below.refl _ _ | (with_reducible refine kSet ?_ ?hB _; case hB => (simp; try omega)) | with_reducible refine kAlloc ?_ _ | with_reducible refine Below.drew ?_ | with_reducible refine kDrewN ?_ _ | with_reducible refine kTrans ?_ (by assumption))⟩
end Go.Proofs.YtlbnhdnmcnfgdaaDoor
