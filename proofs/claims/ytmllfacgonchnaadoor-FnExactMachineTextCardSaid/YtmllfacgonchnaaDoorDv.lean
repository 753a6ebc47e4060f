/- A device's counts, inputs and outputs: what the program says of them. The map of the ports seen. -/
import Derived.Test.YtmllfacgonchnaaDoorMc
import Derived.Test.YtmllfacgonchnaaDoorEqPo
import Derived.Test.YtmllfacgonchnaaDoorG2
import Derived.Test.YtmllfacgonchnaaDoorG4
import Derived.MapKept
namespace Go.Proofs.YtmllfacgonchnaaDoor
open Go.ChangeShapes Go.WideShapes Go.ChangeAt Go.RowKit Go.Joins Go.Deep
set_option linter.unusedVariables false
set_option linter.unusedSimpArgs false

def Po.told (lb : List Pc) (p : Po) : Bool := decide (0 ≤ p.side ∧ p.side ≤ 3) && decide (0 ≤ findFrom p.x p.y lb 0)
def insOk (lb : List Pc) (seen : List Po) : List Po → Bool
  | [] => true
  | p :: l => p.told lb && !decide (p ∈ seen) && insOk lb (seen ++ [p]) l
def outsOk (lb : List Pc) : List Cl → Bool
  | [] => true
  | c :: l => decide (0 ≤ findFrom c.x c.y lb 0) && outsOk lb l
def countsOk (n m k : Nat) : Bool := decide (n ≤ 60) && decide (1 ≤ m ∧ m ≤ 6) && decide (1 ≤ k ∧ k ≤ 8)
def machOk (wd hi : Int) (lb : List Pc) (l : List Po) (c : List Cl) : Bool := boardOk wd hi lb && countsOk lb.length l.length c.length && insOk lb [] l && outsOk lb c

def portV (p : Po) : Value := .agg #[.int .i8 p.x, .int .i8 p.y, .int .i8 p.side]
/-- entries that are these ports -/
def PEnt : List MapEntry → List Po → Prop
  | [], [] => True
  | e :: es, p :: l => e.key = portV p ∧ e.val = .bool true ∧ PEnt es l
  | _, _ => False
theorem PEnt.snoc : ∀ {es : List MapEntry} {l : List Po} {e : MapEntry} {p : Po}, PEnt es l → e.key = portV p → e.val = .bool true → PEnt (es ++ [e]) (l ++ [p])
  | [], [], e, p, _, hk, hv => ⟨hk, hv, trivial⟩
  | _ :: _, _ :: _, e, p, h, hk, hv => ⟨h.1, h.2.1, PEnt.snoc h.2.2 hk hv⟩
  | [], _ :: _, _, _, h, _, _ => h.elim
  | _ :: _, [], _, _, h, _, _ => h.elim
def PMapAt (w : World) (B : Nat) (l : List Po) : Prop := ∃ es clock, w.heap[B]? = some (.map es clock) ∧ PEnt es.toList l
theorem PMapAt.below {W w' : World} {B : Nat} {l : List Po} (h : PMapAt W B l) (hb : Below W.heap.size W w') : PMapAt w' B l := by
  obtain ⟨es, c, h1, h2⟩ := h
  exact ⟨es, c, (hb.block B (Array.getElem?_eq_some_iff.1 h1).1).trans h1, h2⟩
theorem PMapAt.lt {w : World} {B : Nat} {l : List Po} (h : PMapAt w B l) : B < w.heap.size := by
  obtain ⟨es, c, h1, h2⟩ := h
  exact (Array.getElem?_eq_some_iff.1 h1).1

theorem portEqual (p q : Po) (w : World) : (Op.equal 140 (portV p) (portV q)).run Tryd.prog w = .ok (decide (p = q)) w := Po_eq p q w
theorem findAsking_ports (p : Po) (w : World) : ∀ (es : List MapEntry) (l : List Po) (i : Nat), PEnt es l →
    ∃ q : Nat, (Instr.findAsking 140 (portV p) es i).run Tryd.prog w = .ok (if p ∈ l then some (q, .bool true) else none) w
  | [], [], i, _ => ⟨0, by simp [Instr.findAsking]⟩
  | e :: es, a :: l, i, ⟨hk, hv, h⟩ => by
    by_cases hx : p = a
    · refine ⟨i, ?_⟩
      rw [if_pos (by simp [hx])]
      simp [Instr.findAsking, Sem.run_bind, hk, portEqual, Result.andThen, hx, hv]
    · obtain ⟨q, hq⟩ := findAsking_ports p w es l (i + 1) h
      refine ⟨q, ?_⟩
      have e1 : (p ∈ a :: l) = (p ∈ l) := by simp [hx]
      simp only [e1]
      rw [← hq]
      simp [Instr.findAsking, Sem.run_bind, hk, portEqual, Result.andThen, hx]
  | [], _ :: _, _, h => h.elim
  | _ :: _, [], _, h => h.elim
theorem check_port (em : Bool) (p : Po) (w : World) : (Instr.checkKey em 10000 140 (portV p)).run Tryd.prog w = .ok () w := by kernel_rfl
theorem findKey_ports (p : Po) (w : World) (es : List MapEntry) (l : List Po) (h : PEnt es l) :
    ∃ q : Nat, (Instr.findKey 140 (portV p) es).run Tryd.prog w = .ok (if p ∈ l then some (q, .bool true) else none) w := by
  match es, l, h with
  | [], [], _ => exact ⟨0, by simp [Instr.findKey, Instr.findNow, run_underlying Tryd.underlying140, Result.andThen]⟩
  | e :: es, a :: l, h =>
    obtain ⟨q, hq⟩ := findAsking_ports p w (e :: es) (a :: l) 0 h
    refine ⟨q, ?_⟩
    rw [← hq]
    simp [Instr.findKey, Instr.findNow, Instr.sameNow, Sem.run_bind, run_underlying Tryd.underlying140, Result.andThen]
theorem run_lookup_ports (p : Po) (w : World) (B : Nat) (l : List Po) (h : PMapAt w B l) :
    (Instr.lookup 190 (.map (some B)) (portV p) false).run Tryd.prog w = .ok (.bool (decide (p ∈ l))) w := by
  obtain ⟨es, clock, hb, he⟩ := h
  obtain ⟨q, hq⟩ := findKey_ports p w es.toList l he
  have hg : (getObj B).run Tryd.prog w = .ok (.map es clock) w := Go.MapKept.run_getObj_map hb
  have hz : (zeroValue 4).run Tryd.prog w = .ok (.bool false) w := by kernel_rfl
  simp only [Instr.lookup, Sem.run_bind, run_underlying Tryd.underlying190, Result.andThen_ok, hg, Sem.run_pure, check_port, hq]
  by_cases hf : p ∈ l
  · simp [hf]
  · simp [hf, hz, Result.andThen]
/-- a store of a port that is not there yet -/
theorem run_update_ports (p : Po) (w : World) (B : Nat) (l : List Po) (h : PMapAt w B l) (hn : p ∉ l) :
    ∃ w', (Instr.mapUpdate 190 (.map (some B)) (portV p) (.bool true)).run Tryd.prog w = .ok () w' ∧ PMapAt w' B (l ++ [p]) ∧ (∀ k, k ≠ B → w'.heap[k]? = w.heap[k]?) ∧ w'.heap.size = w.heap.size ∧ w'.os = w.os ∧ w'.tape = w.tape ∧ w'.output = w.output := by
  obtain ⟨es, clock, hb, he⟩ := h
  obtain ⟨q, hq⟩ := findKey_ports p w es.toList l he
  have hg : (getObj B).run Tryd.prog w = .ok (.map es clock) w := Go.MapKept.run_getObj_map hb
  have hs := Go.MapKept.run_setObj_map (P := Tryd.prog) (.map (es.push { key := portV p, val := .bool true, born := clock }) (clock + 1)) hb
  rw [if_neg hn] at hq
  have hlt : B < w.heap.size := (Array.getElem?_eq_some_iff.1 hb).1
  refine ⟨{ w with heap := w.heap.setIfInBounds B (.map (es.push { key := portV p, val := .bool true, born := clock }) (clock + 1)) }, ?_, ⟨es.push { key := portV p, val := .bool true, born := clock }, clock + 1, ?_, ?_⟩, ?_, ?_, rfl, rfl, rfl⟩
  rotate_left
  · simp [hlt]
  · rw [Array.toList_push]; exact he.snoc rfl rfl
  · intro k hk; simp [Ne.symm hk]
  · simp
  · simp only [Instr.mapUpdate, Sem.run_bind, run_underlying Tryd.underlying190, Result.andThen_ok, hg, check_port, hq]
    exact hs
theorem isCount_any (n m : Int) (w : World) (b : Bool) (hb : b = decide (1 ≤ n ∧ n ≤ m)) :
    Calls Tryd.prog 114 #[.int .i64 n, .int .i64 m] w fun e w' => e = .returned (.bool b) ∧ w = w' := by
  by_cases h1 : 1 ≤ n
  · by_cases h2 : n ≤ m
    · obtain rfl : b = true := by rw [hb]; simp; omega
      clear hb
      go_enter Tryd.func114, Tryd.ntmps114
      go_wp2
      go_ret
      exact ⟨rfl, rfl⟩
    · obtain rfl : b = false := by rw [hb]; simp; omega
      have h2' : decide (n ≤ m) = false := by simp; omega
      clear hb h2
      go_enter Tryd.func114, Tryd.ntmps114
      go_wp2
      go_ret
      exact ⟨rfl, rfl⟩
  · obtain rfl : b = false := by rw [hb]; simp; omega
    have h1' : decide (1 ≤ n) = false := by simp; omega
    clear hb h1
    go_enter Tryd.func114, Tryd.ntmps114
    go_wp2
    go_ret
    exact ⟨rfl, rfl⟩
set_option maxRecDepth 100000 in
set_option maxHeartbeats 2000000 in
theorem goodCounts_any (B : Nat) (wd hi : Int) (a0 a1 a2 : Option Addr) (n0 n1 n2 d0 d1 d2 : Nat) (w : World) (m0 : n0 ≤ 1048576) (m1 : n1 ≤ 1048576) (m2 : n2 ≤ 1048576) (R : Bool) (hR : R = countsOk n0 n1 n2) :
    Calls Tryd.prog 106 #[.agg #[.int .i8 wd, .int .i8 hi, .map (some B), .int .i8 wd, .int .i8 hi, .slice a0 n0 d0, .slice a1 n1 d1, .slice a2 n2 d2]] w fun e w' => e = .returned (.bool R) ∧ Below w.heap.size w w' := by
  by_cases g0 : n0 ≤ 60
  · obtain ⟨R1, hR1⟩ : ∃ R1, R1 = decide (1 ≤ (n1 : Int) ∧ (n1 : Int) ≤ 6) := ⟨_, rfl⟩
    have e0 : decide ((n0 : Int) ≤ 60) = true := by simp; omega
    have HR1 := Lib.hid hR1
    cases R1 with
    | true =>
      obtain ⟨R2, hR2⟩ : ∃ R2, R2 = decide (1 ≤ (n2 : Int) ∧ (n2 : Int) ≤ 8) := ⟨_, rfl⟩
      have HR2 := Lib.hid hR2
      obtain rfl : R = R2 := by
        rw [hR, hR2]; unfold countsOk
        have : 1 ≤ n1 ∧ n1 ≤ 6 := by have := of_decide_eq_true hR1.symm; omega
        have e : (1 ≤ (n2 : Int) ∧ (n2 : Int) ≤ 8) = (1 ≤ n2 ∧ n2 ≤ 8) := by apply propext; omega
        simp only [g0, this, e]; simp
      clear hR hR1 hR2
      go_enter Tryd.func106, Tryd.ntmps106
      go_wp2_with fail
      refine (isCount_any _ _ _ true HR1.out).mono ?_
      rintro e w1 ⟨rfl, rfl⟩
      go_wp2_with fail
      refine (isCount_any _ _ _ R HR2.out).mono ?_
      rintro e w1 ⟨rfl, rfl⟩
      go_wp2
      go_ret
      exact ⟨rfl, by repeat (first | with_reducible exact Below.refl _ _ | (with_reducible refine kSet ?_ ?hB _; case hB => (simp; try omega)) | with_reducible refine kAlloc ?_ _ | with_reducible refine Below.drew ?_ | with_reducible refine kDrewN ?_ _ | with_reducible refine kTrans ?_ (by assumption))⟩
    | false =>
      obtain rfl : R = false := by
        rw [hR]; unfold countsOk
        have : ¬ (1 ≤ n1 ∧ n1 ≤ 6) := by have := of_decide_eq_false hR1.symm; omega
        simp [this]
      clear hR hR1
      go_enter Tryd.func106, Tryd.ntmps106
      go_wp2_with fail
      refine (isCount_any _ _ _ false HR1.out).mono ?_
      rintro e w1 ⟨rfl, rfl⟩
      go_wp2
      go_ret
      exact ⟨rfl, by repeat (first | with_reducible exact Below.refl _ _ | (with_reducible refine kSet ?_ ?hB _; case hB => (simp; try omega)) | with_reducible refine kAlloc ?_ _ | with_reducible refine Below.drew ?_ | with_reducible refine kDrewN ?_ _ | with_reducible refine kTrans ?_ (by assumption))⟩
  · obtain rfl : R = false := by rw [hR]; unfold countsOk; simp [g0]
    have e0 : decide ((n0 : Int) ≤ 60) = false := by simp; omega
    have e0' : decide (n0 ≤ 60) = false := by simpa using g0
    clear hR g0
    go_enter Tryd.func106, Tryd.ntmps106
    go_wp2
    go_ret
    exact ⟨rfl, by repeat (first | with_reducible exact Below.refl _ _ | (with_reducible refine kSet ?_ ?hB _; case hB => (simp; try omega)) | with_reducible refine kAlloc ?_ _ | with_reducible refine Below.drew ?_ | with_reducible refine kDrewN ?_ _ | with_reducible refine kTrans ?_ (by assumption))⟩
set_option maxRecDepth 100000 in
set_option maxHeartbeats 4000000 in
theorem goodOutputs_any (B q : Nat) (wd hi : Int) (a0 a1 : Option Addr) (n0 n1 d0 d1 n : Nat) (lb : List Pc) (l : List Cl) (w : World) (hn : l.length = n) (hp : ClsAt w q 0 l) (hb : q < w.heap.size) (hmp : MapAt w B lb) (hmax : n ≤ 1048576) (R : Bool) (hR : outsOk lb l = R) :
    Calls Tryd.prog 108 #[.agg #[.int .i8 wd, .int .i8 hi, .map (some B), .int .i8 wd, .int .i8 hi, .slice a0 n0 d0, .slice a1 n1 d1, .slice (some ⟨q, 0, none⟩) n n]] w fun e w' => e = .returned (.bool R) ∧ Below w.heap.size w w' := by
  have Hn := Lib.hid hn
  have HR : Hid (outsOk lb (l.drop 0) = R) := Lib.hid hR
  have bk := Lib.hid (mNew w (.cells #[.int .i8 wd, .int .i8 hi, .map (some B), .int .i8 wd, .int .i8 hi, .slice a0 n0 d0, .slice a1 n1 d1, .slice (some ⟨q, 0, none⟩) n n] 172))
  have qm := Lib.hid (hmp.below (kAlloc (Below.refl _ _) (.cells #[.int .i8 wd, .int .i8 hi, .map (some B), .int .i8 wd, .int .i8 hi, .slice a0 n0 d0, .slice a1 n1 d1, .slice (some ⟨q, 0, none⟩) n n] 172)))
  have T0 : Below w.heap.size w (w.alloc (.cells #[.int .i8 wd, .int .i8 hi, .map (some B), .int .i8 wd, .int .i8 hi, .slice a0 n0 d0, .slice a1 n1 d1, .slice (some ⟨q, 0, none⟩) n n] 172)) := by repeat (first | with_reducible exact Below.refl _ _ | (with_reducible refine kSet ?_ ?hB _; case hB => (simp; try omega)) | with_reducible refine kAlloc ?_ _ | with_reducible refine Below.drew ?_ | with_reducible refine kDrewN ?_ _ | with_reducible refine kTrans ?_ (by assumption))
  clear hn hR hmp
  go_enter Tryd.func108, Tryd.ntmps108
  go_wp2
  go_loopw [4, 9] (fun _ i wr => ∃ k : Nat, k ≤ n ∧ i = .int .i64 k ∧ Hid (outsOk lb (l.drop k) = R) ∧ Hid (wr.heap[w.heap.size]? = some (.cells #[.int .i8 wd, .int .i8 hi, .map (some B), .int .i8 wd, .int .i8 hi, .slice a0 n0 d0, .slice a1 n1 d1, .slice (some ⟨q, 0, none⟩) n n] 172 (0, 0))) ∧ Hid (MapAt wr B lb) ∧ Below w.heap.size w wr) (fun _ i _ => n - (intOf i).toNat)
  case atStart => exact ⟨0, by omega, rfl, HR, bk, qm, T0⟩
  case round =>
    obtain ⟨k, hk, rfl, hf, bk, qm, hbr⟩ := hrel
    by_cases hlt : k < n
    · have hlk : k < l.length := by rw [Hn.out]; exact hlt
      have hpa := (hp.below hbr hb) k hlk
      have hd : l.drop k = l[k] :: l.drop (k + 1) := List.drop_eq_getElem_cons hlk
      generalize l[k] = p at hpa hd
      have hq := hf.out
      rw [hd] at hq
      obtain ⟨z0_, z1_⟩ := hpa
      simp only [Nat.zero_add] at z0_ z1_
      have hbl := mBlk_lt bk.out
      have c0 : wr.cell? ⟨w.heap.size, 0, none⟩ = some (.int .i8 wd) := cell_of_row _ _ 0 _ _ _ bk.out
      have c1 : wr.cell? ⟨w.heap.size, 1, none⟩ = some (.int .i8 hi) := cell_of_row _ _ 1 _ _ _ bk.out
      have c2 : wr.cell? ⟨w.heap.size, 2, none⟩ = some (.map (some B)) := cell_of_row _ _ 2 _ _ _ bk.out
      have c3 : wr.cell? ⟨w.heap.size, 3, none⟩ = some (.int .i8 wd) := cell_of_row _ _ 3 _ _ _ bk.out
      have c4 : wr.cell? ⟨w.heap.size, 4, none⟩ = some (.int .i8 hi) := cell_of_row _ _ 4 _ _ _ bk.out
      have c5 : wr.cell? ⟨w.heap.size, 5, none⟩ = some (.slice a0 n0 d0) := cell_of_row _ _ 5 _ _ _ bk.out
      have c6 : wr.cell? ⟨w.heap.size, 6, none⟩ = some (.slice a1 n1 d1) := cell_of_row _ _ 6 _ _ _ bk.out
      have c7 : wr.cell? ⟨w.heap.size, 7, none⟩ = some (.slice (some ⟨q, 0, none⟩) n n) := cell_of_row _ _ 7 _ _ _ bk.out
      obtain ⟨f, hff⟩ : ∃ f, findFrom p.x p.y lb 0 = f := ⟨_, rfl⟩
      have hix := fun W (hW : MapAt W B lb) => indexAt_any wd hi p.x p.y B lb W hW
      rw [hff] at hix
      have Hix := Lib.hid hix
      have Hff := Lib.hid hff
      have ka : Below wr.heap.size wr (wr.alloc (.cells #[.int .i8 p.x, .int .i8 p.y] 45)) := by repeat (first | with_reducible exact Below.refl _ _ | (with_reducible refine kSet ?_ ?hB _; case hB => (simp; try omega)) | with_reducible refine kAlloc ?_ _ | with_reducible refine Below.drew ?_ | with_reducible refine kDrewN ?_ _ | with_reducible refine kTrans ?_ (by assumption))
      clear hix hff hp hd hf HR T0
      go_wp2_with fail
      refine (Hix.out _ (qm.out.below ka)).mono ?_
      rintro e w3 ⟨rfl, hb3⟩
      have hB3 : Below wr.heap.size wr w3 := kTrans ka hb3
      have T3 := kTrans hbr hB3
      by_cases g3 : 0 ≤ f
      · have hR2 : Hid (outsOk lb (l.drop (k + 1)) = R) := Lib.hid (by rw [← hq]; simp [outsOk, Hff.out, g3])
        have bk3 := Lib.hid (mBlk_below bk.out hB3)
        have qm3 := Lib.hid (qm.out.below hB3)
        clear hq bk qm hb3 hB3 hbr ka c0 c1 c2 c3 c4 c5 c6 c7
        go_wp2
        exact ⟨⟨k + 1, by omega, by go_num, hR2, bk3, qm3, T3⟩, by simp [intOf]; omega⟩
      · obtain rfl : R = false := by rw [← hq]; simp [outsOk, Hff.out]; intro h; omega
        clear hq bk qm hb3 hB3 hbr ka c0 c1 c2 c3 c4 c5 c6 c7
        go_wp2
        go_ret
        exact ⟨rfl, T3⟩
    · obtain rfl : R = true := by rw [← hf.out, List.drop_of_length_le (by rw [Hn.out]; omega)]; rfl
      clear hp hf HR T0
      go_wp2
      go_ret
      exact ⟨rfl, hbr⟩
theorem take_mem_drop {l : List Po} {k : Nat} (h : k < l.length) : l.take (k + 1) = l.take k ++ [l[k]] := List.take_succ_eq_append_getElem h
set_option maxRecDepth 100000 in
set_option maxHeartbeats 8000000 in
theorem goodInputs_any (B q : Nat) (wd hi : Int) (a0 a2 : Option Addr) (n0 n2 d0 d2 n : Nat) (lb : List Pc) (l : List Po) (w : World) (hn : l.length = n) (hp : PosAt w q 0 l) (hb : q < w.heap.size) (hw : PosWf l) (hmp : MapAt w B lb) (hmax : n ≤ 1048576) (R : Bool) (hR : insOk lb [] l = R) :
    Calls Tryd.prog 107 #[.agg #[.int .i8 wd, .int .i8 hi, .map (some B), .int .i8 wd, .int .i8 hi, .slice a0 n0 d0, .slice (some ⟨q, 0, none⟩) n n, .slice a2 n2 d2]] w fun e w' => e = .returned (.bool R) ∧ Below w.heap.size w w' := by
  have Hn := Lib.hid hn
  have HW := Lib.hid hw
  have HR : Hid (insOk lb (l.take 0) (l.drop 0) = R) := Lib.hid hR
  have hmm := @run_makeMap Tryd.prog
  have ks : Below w.heap.size w ((w.alloc (.cells #[.int .i8 wd, .int .i8 hi, .map (some B), .int .i8 wd, .int .i8 hi, .slice a0 n0 d0, .slice (some ⟨q, 0, none⟩) n n, .slice a2 n2 d2] 172)).alloc (.map #[] 0)) := by repeat (first | with_reducible exact Below.refl _ _ | (with_reducible refine kSet ?_ ?hB _; case hB => (simp; try omega)) | with_reducible refine kAlloc ?_ _ | with_reducible refine Below.drew ?_ | with_reducible refine kDrewN ?_ _ | with_reducible refine kTrans ?_ (by assumption))
  have bk : Hid (((w.alloc (.cells #[.int .i8 wd, .int .i8 hi, .map (some B), .int .i8 wd, .int .i8 hi, .slice a0 n0 d0, .slice (some ⟨q, 0, none⟩) n n, .slice a2 n2 d2] 172)).alloc (.map #[] 0)).heap[w.heap.size]? = some (.cells #[.int .i8 wd, .int .i8 hi, .map (some B), .int .i8 wd, .int .i8 hi, .slice a0 n0 d0, .slice (some ⟨q, 0, none⟩) n n, .slice a2 n2 d2] 172 (0, 0))) := Lib.hid (mBlk_below (mNew w _) (kAlloc (Below.refl _ _) _))
  have pm : Hid (PMapAt ((w.alloc (.cells #[.int .i8 wd, .int .i8 hi, .map (some B), .int .i8 wd, .int .i8 hi, .slice a0 n0 d0, .slice (some ⟨q, 0, none⟩) n n, .slice a2 n2 d2] 172)).alloc (.map #[] 0)) (w.heap.size + 1) (l.take 0)) := Lib.hid (by
    refine ⟨#[], 0, ?_, trivial⟩
    have := mNew (w.alloc (.cells #[.int .i8 wd, .int .i8 hi, .map (some B), .int .i8 wd, .int .i8 hi, .slice a0 n0 d0, .slice (some ⟨q, 0, none⟩) n n, .slice a2 n2 d2] 172)) (.map #[] 0)
    simpa only [World.size_alloc] using this)
  have qm := Lib.hid (hmp.below ks)
  have hBl : B < w.heap.size := by obtain ⟨es, c, h1, _⟩ := hmp; exact mBlk_lt h1
  clear hn hR hmp hw
  go_enter Tryd.func107, Tryd.ntmps107
  go_wp2
  go_loopw [5, 11] (fun _ i wr => ∃ k : Nat, k ≤ n ∧ i = .int .i64 k ∧ Hid (insOk lb (l.take k) (l.drop k) = R) ∧ Hid (wr.heap[w.heap.size]? = some (.cells #[.int .i8 wd, .int .i8 hi, .map (some B), .int .i8 wd, .int .i8 hi, .slice a0 n0 d0, .slice (some ⟨q, 0, none⟩) n n, .slice a2 n2 d2] 172 (0, 0))) ∧ Hid (PMapAt wr (w.heap.size + 1) (l.take k)) ∧ Hid (MapAt wr B lb) ∧ Below w.heap.size w wr) (fun _ i _ => n - (intOf i).toNat)
  case atStart => exact ⟨0, by omega, rfl, HR, bk, pm, qm, ks⟩
  case round =>
    obtain ⟨k, hk, rfl, hf, bk, pm, qm, hbr⟩ := hrel
    clear ks HR hmm
    by_cases hlt : k < n
    · have hlk : k < l.length := by rw [Hn.out]; exact hlt
      have hpa := (hp.below hbr hb) k hlk
      have hwf := HW.out _ (List.getElem_mem hlk)
      have hd : l.drop k = l[k] :: l.drop (k + 1) := List.drop_eq_getElem_cons hlk
      have htk := take_mem_drop hlk
      generalize l[k] = p at hpa hd hwf htk
      have hq := hf.out
      rw [hd] at hq
      have hsd := i8_of hwf.2.2
      unfold i8 at hsd
      obtain ⟨c0_, c1_, c2_⟩ := hpa
      simp only [Nat.zero_add] at c0_ c1_ c2_
      have hbl := mBlk_lt bk.out
      have c0 : wr.cell? ⟨w.heap.size, 0, none⟩ = some (.int .i8 wd) := cell_of_row _ _ 0 _ _ _ bk.out
      have c1 : wr.cell? ⟨w.heap.size, 1, none⟩ = some (.int .i8 hi) := cell_of_row _ _ 1 _ _ _ bk.out
      have c2 : wr.cell? ⟨w.heap.size, 2, none⟩ = some (.map (some B)) := cell_of_row _ _ 2 _ _ _ bk.out
      have c3 : wr.cell? ⟨w.heap.size, 3, none⟩ = some (.int .i8 wd) := cell_of_row _ _ 3 _ _ _ bk.out
      have c4 : wr.cell? ⟨w.heap.size, 4, none⟩ = some (.int .i8 hi) := cell_of_row _ _ 4 _ _ _ bk.out
      have c5 : wr.cell? ⟨w.heap.size, 5, none⟩ = some (.slice a0 n0 d0) := cell_of_row _ _ 5 _ _ _ bk.out
      have c6 : wr.cell? ⟨w.heap.size, 6, none⟩ = some (.slice (some ⟨q, 0, none⟩) n n) := cell_of_row _ _ 6 _ _ _ bk.out
      have c7 : wr.cell? ⟨w.heap.size, 7, none⟩ = some (.slice a2 n2 d2) := cell_of_row _ _ 7 _ _ _ bk.out
      obtain ⟨f, hff⟩ : ∃ f, findFrom p.x p.y lb 0 = f := ⟨_, rfl⟩
      have hix := fun W (hW : MapAt W B lb) => indexAt_any wd hi p.x p.y B lb W hW
      rw [hff] at hix
      have Hix := Lib.hid hix
      have Hff := Lib.hid hff
      have ka : Below wr.heap.size wr (wr.alloc (.cells #[.int .i8 p.x, .int .i8 p.y, .int .i8 p.side] 140)) := by repeat (first | with_reducible exact Below.refl _ _ | (with_reducible refine kSet ?_ ?hB _; case hB => (simp; try omega)) | with_reducible refine kAlloc ?_ _ | with_reducible refine Below.drew ?_ | with_reducible refine kDrewN ?_ _ | with_reducible refine kTrans ?_ (by assumption))
      have Htk := Lib.hid htk
      have PB := Lib.hid (PoAt.box wr p 140)
      clear hix hff hp hd hf hwf htk
      by_cases g1 : 0 ≤ p.side ∧ p.side ≤ 3
      · go_wp2_with fail
        refine (isSide_any _ _ true (by simp; omega)).mono ?_
        rintro e w2 ⟨rfl, rfl⟩
        go_wp2_with fail
        refine (Hix.out _ (qm.out.below ka)).mono ?_
        rintro e w3 ⟨rfl, hb3⟩
        have hB3 : Below wr.heap.size wr w3 := kTrans ka hb3
        have T3 := kTrans hbr hB3
        obtain ⟨y0, y1, y2⟩ := PB.out.below hb3 (by simp)
        simp only [Nat.zero_add] at y1 y2
        have pm3 := pm.out.below hB3
        have hn3 := pm3.lt
        have hl := run_lookup_ports p w3 _ _ pm3
        unfold portV at hl
        have bk3 := Lib.hid (mBlk_below bk.out hB3)
        have qm3 := Lib.hid (qm.out.below hB3)
        have pm3' := Lib.hid pm3
        clear bk qm pm hb3 hB3 hbr ka pm3 PB c0_ c1_ c2_ c0 c1 c2 c3 c4 c5 c6 c7
        by_cases g3 : 0 ≤ f
        · by_cases g4 : p ∈ l.take k
          · obtain rfl : R = false := by rw [← hq]; simp [insOk, g4]
            rw [show decide (p ∈ l.take k) = true by simpa using g4] at hl
            clear hq
            go_wp2
            go_ret
            exact ⟨rfl, T3⟩
          · have hR2 : Hid (insOk lb (l.take (k + 1)) (l.drop (k + 1)) = R) := Lib.hid (by rw [← hq, Htk.out]; simp [insOk, Po.told, Hff.out, g1, g3, g4])
            rw [show decide (p ∈ l.take k) = false by simpa using g4] at hl
            obtain ⟨w5, hu, hm5, hk5, hsz5, hos, htp, hout⟩ := run_update_ports p w3 _ _ pm3'.out g4
            unfold portV at hu
            have T5 : Below w.heap.size w w5 := T3.trans ⟨hos, htp, hout, by omega, fun q hq => hk5 q (by omega)⟩
            have bk5 := Lib.hid ((hk5 w.heap.size (by omega)).trans bk3.out)
            have pm5 : Hid (PMapAt w5 (w.heap.size + 1) (l.take (k + 1))) := Lib.hid (by rw [Htk.out]; exact hm5)
            have qm5 : Hid (MapAt w5 B lb) := Lib.hid (by
              obtain ⟨es, c, h1, h2⟩ := qm3.out
              exact ⟨es, c, (hk5 B (by omega)).trans h1, h2⟩)
            clear hq hm5 hk5 hsz5 hos htp hout bk3 qm3 pm3' T3
            go_wp2
            exact ⟨⟨k + 1, by omega, by go_num, hR2, bk5, pm5, qm5, T5⟩, by simp [intOf]; omega⟩
        · obtain rfl : R = false := by rw [← hq]; simp [insOk, Po.told, Hff.out]; intro _ _ h; omega
          clear hq
          go_wp2
          go_ret
          exact ⟨rfl, T3⟩
      · obtain rfl : R = false := by rw [← hq]; simp [insOk, Po.told]; intro h3 h4; exact absurd ⟨h3, h4⟩ g1
        clear hq
        go_wp2_with fail
        refine (isSide_any _ _ false (by simpa using g1)).mono ?_
        rintro e w2 ⟨rfl, rfl⟩
        go_wp2
        go_ret
        exact ⟨rfl, by repeat (first | with_reducible exact Below.refl _ _ | (with_reducible refine kSet ?_ ?hB _; case hB => (simp; try omega)) | with_reducible refine kAlloc ?_ _ | with_reducible refine Below.drew ?_ | with_reducible refine kDrewN ?_ _ | with_reducible refine kTrans ?_ (by assumption))⟩
    · obtain rfl : R = true := by rw [← hf.out, List.drop_of_length_le (by rw [Hn.out]; omega)]; simp [insOk]
      clear hp hf
      go_wp2
      go_ret
      exact ⟨rfl, hbr⟩
end Go.Proofs.YtmllfacgonchnaaDoor
