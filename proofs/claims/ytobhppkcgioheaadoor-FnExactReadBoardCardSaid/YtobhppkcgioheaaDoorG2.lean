/- Several texts in one: Ok, Mp, Ly, Lo, Vb, Pa, Ck. -/
import Derived.Test.YtobhppkcgioheaaDoorG1
import Derived.IntWalk
import Derived.MapKept
import Derived.Carry
import Derived.Handy
/- The model's check of a board. -/
namespace Go.Proofs.YtobhppkcgioheaaDoor
open Go.ChangeShapes Go.WideShapes Go.ChangeAt Go.RowKit
set_option linter.unusedVariables false

/-- a piece of a board: it is valid, in one of its cells, and the first one there -/
def okOne (wd hi : Int) (l : List Pc) (i : Nat) (p : Pc) : Bool := p.ok && decide (0 ≤ p.x ∧ p.x ≤ wd - 1 ∧ 0 ≤ p.y ∧ p.y ≤ hi - 1) && decide (findFrom p.x p.y l 0 = i)
/-- the pieces from the i-th on -/
def okFrom (wd hi : Int) (l : List Pc) : Nat → List Pc → Bool
  | _, [] => true
  | i, p :: r => okOne wd hi l i p && okFrom wd hi l (i + 1) r
def boardOk (wd hi : Int) (l : List Pc) : Bool := decide (1 ≤ wd ∧ wd ≤ 24 ∧ 1 ≤ hi ∧ hi ≤ 24 ∧ l.length ≤ 200) && okFrom wd hi l 0 l

/-- A region that draws its order, whose operations read what has been there and whose callees make memory alone: one walk in the order of the text. -/
theorem wp_region_class {P : Program} (C : World → Prop) {id : Nat} {Q : Exit → Act → World → Prop} {a : Act} {w : World} {l : List Oper} (hm : P.follows .mixedOrders = true) (hB : Region.lexB .any l.toArray = true) (hC : C { w with drawn := w.drawn + 1 })
    (h : wpQuiet P l.toArray C (fun a' => ∀ w', C w' → Q .normal a' w') l a) : (Code.region id l.toArray true).wp P Q a w :=
  wp_region_quiet (C := C) hm hB hC (by simpa using h)
theorem l01Find_to (bb bo b o n cap : Nat) (wd hi x y R : Int) (l : List Pc) (w : World) (hn : l.length = n) (hbd : BdAt w bb bo wd hi (.slice (some ⟨b, o, none⟩) n cap)) (hp : PcsAt w b o l) (hb : b < w.heap.size) (hc : n ≤ cap) (hmax : n ≤ 1048576) (hR : findFrom x y l 0 = R) :
    Calls Tryd.prog 103 #[.pointer (some ⟨bb, bo, none⟩), .agg #[.int .i8 x, .int .i8 y]] w fun e w' => e = .returned (.int .i64 R) ∧ Below w.heap.size w w' := by
  subst hR; exact l01Find_any bb bo b o n cap wd hi x y l w hn hbd hp hb hc hmax
set_option maxRecDepth 100000 in
set_option maxHeartbeats 4000000 in
theorem l01Ok_in (bb bo b o n cap : Nat) (wd hi : Int) (l : List Pc) (w : World) (hn : l.length = n) (hbd : BdAt w bb bo wd hi (.slice (some ⟨b, o, none⟩) n cap)) (hp : PcsAt w b o l) (hb : b < w.heap.size) (hc : n ≤ cap) (h8 : All8 l)
    (hw : 1 ≤ wd ∧ wd ≤ 24) (hh : 1 ≤ hi ∧ hi ≤ 24) (hl : n ≤ 200) (R : Bool) (hok : okFrom wd hi l 0 l = R) :
    Calls Tryd.prog 50 #[.pointer (some ⟨bb, bo, none⟩)] w fun e w' => e = .returned (.bool R) ∧ Below w.heap.size w w' := by
  have Hn := Lib.hid hn
  have hbb := hbd.lt
  have Hok : Hid (okFrom wd hi l 0 (l.drop 0) = R) := hok
  obtain ⟨q0, q1, q2⟩ := hbd
  clear hn hok
  have h200 : decide (200 < (n : Int)) = false := by simp; omega
  go_enter Tryd.func50, Tryd.ntmps50
  go_wp2_with (go_at_call 101; refine (l00In_yes _ _ _ _ (by omega) (by omega)).mono ?_; rintro e w' ⟨rfl, rfl⟩)
  go_loopw [3, 4] (fun i _ wr => ∃ k : Nat, k ≤ n ∧ i = .int .i64 k ∧ Hid (okFrom wd hi l k (l.drop k) = R) ∧ Below w.heap.size w wr) (fun i _ _ => n - (intOf i).toNat)
  case atStart => exact ⟨0, by omega, rfl, Hok, Below.refl _ _⟩
  case round =>
    obtain ⟨k, hk, rfl, hf, hbr⟩ := hrel
    have hq : BdAt wr bb bo wd hi (.slice (some ⟨b, o, none⟩) n cap) := BdAt.below ⟨q0, q1, q2⟩ hbr hbb
    clear q0 q1 q2
    have Hq := Lib.hid hq
    obtain ⟨q0, q1, q2⟩ := hq
    by_cases hlt : k < n
    · have hlk : k < l.length := by rw [Hn.out]; exact hlt
      have hps := hp.below hbr hb
      have Hps := Lib.hid hps
      have hpa := hps k hlk
      have hd : l.drop k = l[k] :: l.drop (k + 1) := List.drop_eq_getElem_cons hlk
      have hp8 := h8 _ (List.getElem_mem hlk)
      generalize l[k] = p at hd hpa hp8
      have hok1 : (okOne wd hi l k p && okFrom wd hi l (k + 1) (l.drop (k + 1))) = R := by
        have := hf.out
        rw [hd] at this
        exact this
      have hbw := Nat.lt_of_lt_of_le hb hbr.size
      have hbbw := Nat.lt_of_lt_of_le hbb hbr.size
      obtain ⟨a0, a1, a2, a3, a4⟩ := id hpa
      have Hpa := Lib.hid hpa
      have w1e : IntKind.i64.wrap wd = wd := IntWalk.i64_in _ (by omega)
      have w2e : IntKind.i64.wrap hi = hi := IntWalk.i64_in _ (by omega)
      clear hp h8 hf Hok hd hps hpa
      cases g1 : p.ok with
      | false =>
        have hR : R = false := by rw [← hok1]; simp [okOne, g1]
        subst hR
        have G1 : Hid (false = p.ok) := g1.symm
        clear hok1 g1
        go_wp2
        refine wp_region_class (fun w' => Below wr.heap.size wr w') (by kernel_rfl) (by kernel_rfl) (Below.drew (Below.refl _ _)) ?_
        repeat (first
          | go_big_quiet_skip
          | (go_big_quiet_want; go_big_quiet_op; go_big_quiet_on)
          | (refine wpQuiet_step (fun K hK => ?_)
             go_simp
             refine hK _ ?_
             clear hK K)
          | (refine wpQuiet_step (fun K hK => ?_)
             go_simp
             apply Exists.intro
             refine ⟨fun w1 hw1 => ?_, hK _ ?_⟩
             · first
               | exact rfl
               | (go_at_call 102
                  exact (l01Piece_any p _ _ _ hp8 (Hpa.out.below hw1 hbw) false G1.out).mono fun e w2 h => ⟨h.1, kTrans hw1 h.2⟩)
             clear hK K))
        refine wpQuiet_nil ?_
        intro w2 hw2
        clear w1e w2e
        go_wp2
        go_ret
        exact ⟨rfl, kTrans hbr hw2⟩
      | true =>
        have G1 : Hid (true = p.ok) := g1.symm
        by_cases g2 : 0 ≤ p.x ∧ p.x ≤ wd - 1 ∧ 0 ≤ p.y ∧ p.y ≤ hi - 1
        · by_cases g3 : findFrom p.x p.y l 0 = k
          · have hR : okFrom wd hi l (k + 1) (l.drop (k + 1)) = R := by rw [← hok1]; simp [okOne, g1, g2, g3]
            have HR := Lib.hid hR
            have G3 := Lib.hid g3
            clear hok1 g1 g3 hR
            go_wp2
            refine wp_region_class (fun w' => Below wr.heap.size wr w') (by kernel_rfl) (by kernel_rfl) (Below.drew (Below.refl _ _)) ?_
            repeat (first
              | go_big_quiet_skip
              | (go_big_quiet_want; go_big_quiet_op; go_big_quiet_on)
              | (refine wpQuiet_step (fun K hK => ?_)
                 go_simp
                 refine hK _ ?_
                 clear hK K)
              | (refine wpQuiet_step (fun K hK => ?_)
                 go_simp
                 apply Exists.intro
                 refine ⟨fun w1 hw1 => ?_, hK _ ?_⟩
                 · first
                   | exact rfl
                   | (go_at_call 102
                      exact (l01Piece_any p _ _ _ hp8 (Hpa.out.below hw1 hbw) true G1.out).mono fun e w2 h => ⟨h.1, kTrans hw1 h.2⟩)
                   | (go_at_call 92
                      exact (l01In_any _ _ _ _ _ hp8.1 hp8.2.1 (by omega) (by omega) true (by simp; omega)).mono fun e w2 h => ⟨h.1, kTrans hw1 h.2⟩)
                   | (go_at_call 103
                      exact (l01Find_to bb bo b o n cap wd hi p.x p.y k l _ Hn.out (Hq.out.below hw1 hbbw) (Hps.out.below hw1 hbw) (Nat.lt_of_lt_of_le hbw hw1.size) hc (by omega) G3.out).mono fun e w2 h => ⟨h.1, kTrans hw1 h.2⟩)
                   | (have c0 := (hw1.cell (p := ⟨b, o + k * 5, none⟩) hbw).trans a0
                      have c1 := (hw1.cell (p := ⟨b, o + k * 5 + 1, none⟩) hbw).trans a1
                      have e0 := (hw1.cell (p := ⟨bb, bo, none⟩) hbbw).trans q0
                      have e1 := (hw1.cell (p := ⟨bb, bo + 1, none⟩) hbbw).trans q1
                      go_simp
                      exact rfl)
                 clear hK K))
            refine wpQuiet_nil ?_
            intro w2 hw2
            clear w1e w2e
            go_wp2
            exact ⟨⟨k + 1, by omega, by go_num, HR, kTrans hbr hw2⟩, by simp [intOf]; omega⟩
          · have hR : R = false := by rw [← hok1]; simp [okOne, g3]
            subst hR
            obtain ⟨z, hz⟩ : ∃ z, findFrom p.x p.y l 0 = z := ⟨_, rfl⟩
            have G3 := Lib.hid hz
            have hzk : (z == (k : Int)) = false := by simpa [hz] using g3
            have hzk2 : (z != (k : Int)) = true := by simpa [hz] using g3
            clear hok1 g1 g3 hz
            go_wp2
            refine wp_region_class (fun w' => Below wr.heap.size wr w') (by kernel_rfl) (by kernel_rfl) (Below.drew (Below.refl _ _)) ?_
            repeat (first
              | go_big_quiet_skip
              | (go_big_quiet_want; go_big_quiet_op; go_big_quiet_on)
              | (refine wpQuiet_step (fun K hK => ?_)
                 go_simp
                 refine hK _ ?_
                 clear hK K)
              | (refine wpQuiet_step (fun K hK => ?_)
                 go_simp
                 apply Exists.intro
                 refine ⟨fun w1 hw1 => ?_, hK _ ?_⟩
                 · first
                   | exact rfl
                   | (go_at_call 102
                      exact (l01Piece_any p _ _ _ hp8 (Hpa.out.below hw1 hbw) true G1.out).mono fun e w2 h => ⟨h.1, kTrans hw1 h.2⟩)
                   | (go_at_call 92
                      exact (l01In_any _ _ _ _ _ hp8.1 hp8.2.1 (by omega) (by omega) true (by simp; omega)).mono fun e w2 h => ⟨h.1, kTrans hw1 h.2⟩)
                   | (go_at_call 103
                      exact (l01Find_to bb bo b o n cap wd hi p.x p.y z l _ Hn.out (Hq.out.below hw1 hbbw) (Hps.out.below hw1 hbw) (Nat.lt_of_lt_of_le hbw hw1.size) hc (by omega) G3.out).mono fun e w2 h => ⟨h.1, kTrans hw1 h.2⟩)
                   | (have c0 := (hw1.cell (p := ⟨b, o + k * 5, none⟩) hbw).trans a0
                      have c1 := (hw1.cell (p := ⟨b, o + k * 5 + 1, none⟩) hbw).trans a1
                      have e0 := (hw1.cell (p := ⟨bb, bo, none⟩) hbbw).trans q0
                      have e1 := (hw1.cell (p := ⟨bb, bo + 1, none⟩) hbbw).trans q1
                      go_simp
                      exact rfl)
                 clear hK K))
            refine wpQuiet_nil ?_
            intro w2 hw2
            clear w1e w2e
            go_wp2
            go_ret
            exact ⟨rfl, kTrans hbr hw2⟩
        · have hR : R = false := by rw [← hok1]; simp [okOne, g2]
          subst hR
          have g2' : Hid (¬ (0 ≤ p.x ∧ p.x ≤ wd - 1 ∧ 0 ≤ p.y ∧ p.y ≤ hi - 1)) := g2
          clear hok1 g1 g2
          go_wp2
          refine wp_region_class (fun w' => Below wr.heap.size wr w') (by kernel_rfl) (by kernel_rfl) (Below.drew (Below.refl _ _)) ?_
          repeat (first
            | go_big_quiet_skip
            | (go_big_quiet_want; go_big_quiet_op; go_big_quiet_on)
            | (refine wpQuiet_step (fun K hK => ?_)
               go_simp
               refine hK _ ?_
               clear hK K)
            | (refine wpQuiet_step (fun K hK => ?_)
               go_simp
               apply Exists.intro
               refine ⟨fun w1 hw1 => ?_, hK _ ?_⟩
               · first
                 | exact rfl
                 | (go_at_call 102
                    exact (l01Piece_any p _ _ _ hp8 (Hpa.out.below hw1 hbw) true G1.out).mono fun e w2 h => ⟨h.1, kTrans hw1 h.2⟩)
                 | (go_at_call 92
                    exact (l01In_any _ _ _ _ _ hp8.1 hp8.2.1 (by omega) (by omega) false (by have := g2'.out; simpa using this)).mono fun e w2 h => ⟨h.1, kTrans hw1 h.2⟩)
                 | (have c0 := (hw1.cell (p := ⟨b, o + k * 5, none⟩) hbw).trans a0
                    have c1 := (hw1.cell (p := ⟨b, o + k * 5 + 1, none⟩) hbw).trans a1
                    have e0 := (hw1.cell (p := ⟨bb, bo, none⟩) hbbw).trans q0
                    have e1 := (hw1.cell (p := ⟨bb, bo + 1, none⟩) hbbw).trans q1
                    go_simp
                    exact rfl)
               clear hK K))
          refine wpQuiet_nil ?_
          intro w2 hw2
          clear w1e w2e
          go_wp2
          go_ret
          exact ⟨rfl, kTrans hbr hw2⟩
    · have hR : R = true := by rw [← hf.out, List.drop_of_length_le (by rw [Hn.out]; omega)]; rfl
      subst hR
      clear hf Hok hp h8
      go_wp2
      go_ret
      exact ⟨rfl, hbr⟩

set_option maxHeartbeats 2000000 in
theorem l01Ok_any (bb bo b o n cap : Nat) (wd hi : Int) (l : List Pc) (w : World) (hn : l.length = n) (hbd : BdAt w bb bo wd hi (.slice (some ⟨b, o, none⟩) n cap)) (hp : PcsAt w b o l) (hb : b < w.heap.size) (hc : n ≤ cap) (h8 : All8 l)
    (hw8 : i8 wd) (hh8 : i8 hi) (hmax : n ≤ 1048576) (R : Bool) (hR : R = boardOk wd hi l) :
    Calls Tryd.prog 50 #[.pointer (some ⟨bb, bo, none⟩)] w fun e w' => e = .returned (.bool R) ∧ Below w.heap.size w w' := by
  by_cases h1 : 1 ≤ wd ∧ wd ≤ 24
  · by_cases h2 : 1 ≤ hi ∧ hi ≤ 24
    · by_cases h3 : n ≤ 200
      · exact l01Ok_in bb bo b o n cap wd hi l w hn hbd hp hb hc h8 h1 h2 h3 R (by rw [hR]; unfold boardOk; rw [hn]; simp [h1, h2, h3])
      · obtain rfl : R = false := by rw [hR]; unfold boardOk; rw [hn]; simp; intro _ _ _ _ h; omega
        obtain ⟨q0, q1, q2⟩ := hbd
        have h200 : decide (200 < (n : Int)) = true := by simp; omega
        clear hR hp h8 hn h3
        unfold i8 at hw8 hh8
        go_enter Tryd.func50, Tryd.ntmps50
        go_wp2_with (go_at_call 101; refine (l00In_yes _ _ _ _ (by omega) (by omega)).mono ?_; rintro e w' ⟨rfl, rfl⟩)
        go_ret
        exact ⟨rfl, Below.refl _ _⟩
    · obtain rfl : R = false := by rw [hR]; unfold boardOk; simp; intro _ _ _ _; omega
      obtain ⟨q0, q1, q2⟩ := hbd
      have h2' : hi < 1 ∨ 24 < hi := by omega
      clear hR hp h8 hn h2
      unfold i8 at hw8 hh8
      go_enter Tryd.func50, Tryd.ntmps50
      go_wp2_with (first
        | (go_at_call 101; refine (l00In_yes _ _ _ _ ?_ ?_).mono ?_; (· omega); (· omega); rintro e w' ⟨rfl, rfl⟩)
        | (go_at_call 101; refine (l00In_no _ _ _ _ (by omega)).mono ?_; rintro e w' ⟨rfl, rfl⟩))
      go_ret
      exact ⟨rfl, Below.refl _ _⟩
  · obtain rfl : R = false := by rw [hR]; unfold boardOk; simp; intro _ _; omega
    obtain ⟨q0, q1, q2⟩ := hbd
    have h1' : wd < 1 ∨ 24 < wd := by omega
    clear hR hp h8 hn h1
    unfold i8 at hw8 hh8
    go_enter Tryd.func50, Tryd.ntmps50
    go_wp2_with (go_at_call 101; refine (l00In_no _ _ _ _ (by omega)).mono ?_; rintro e w' ⟨rfl, rfl⟩)
    go_ret
    exact ⟨rfl, Below.refl _ _⟩
end Go.Proofs.YtobhppkcgioheaaDoor

/- The map from cells to indices that a layout has: what a look-up finds, and what a store makes of it. -/
namespace Go.Proofs.YtobhppkcgioheaaDoor
open Go.ChangeShapes Go.WideShapes Go.ChangeAt Go.RowKit
set_option linter.unusedVariables false

def cellV (x y : Int) : Value := .agg #[.int .i8 x, .int .i8 y]
/-- entries that are the cells of the pieces, with their indices from j on -/
def EntAre : List MapEntry → List Pc → Int → Prop
  | [], [], _ => True
  | e :: es, p :: l, j => e.key = cellV p.x p.y ∧ e.val = .int .i64 j ∧ EntAre es l (j + 1)
  | _, _, _ => False
theorem EntAre.length : ∀ {es : List MapEntry} {l : List Pc} {j : Int}, EntAre es l j → es.length = l.length
  | [], [], _, _ => rfl
  | _ :: _, _ :: _, _, h => by simp [EntAre.length h.2.2]
  | [], _ :: _, _, h => h.elim
  | _ :: _, [], _, h => h.elim
theorem EntAre.snoc : ∀ {es : List MapEntry} {l : List Pc} {j : Int} {e : MapEntry} {p : Pc}, EntAre es l j → e.key = cellV p.x p.y → e.val = .int .i64 (j + l.length) → EntAre (es ++ [e]) (l ++ [p]) j
  | [], [], j, e, p, _, hk, hv => ⟨hk, by simpa using hv, trivial⟩
  | _ :: _, _ :: _, j, e, p, h, hk, hv => ⟨h.1, h.2.1, EntAre.snoc h.2.2 hk (by rw [hv]; simp; omega)⟩
  | [], _ :: _, _, _, _, h, _, _ => h.elim
  | _ :: _, [], _, _, _, h, _, _ => h.elim

theorem cellEqual (x y a b : Int) (w : World) : (Op.equal 24 (cellV x y) (cellV a b)).run Tryd.prog w = .ok (x == a && y == b) w := cellEq_any x y a b w

theorem findAsking_cells (x y : Int) (w : World) : ∀ (es : List MapEntry) (l : List Pc) (j : Int) (i : Nat), EntAre es l j → 0 ≤ j →
    ∃ q : Nat, (Instr.findAsking 24 (cellV x y) es i).run Tryd.prog w = .ok (if findFrom x y l j < 0 then none else some (q, .int .i64 (findFrom x y l j))) w ∧ (¬ findFrom x y l j < 0 → j ≤ findFrom x y l j)
  | [], [], j, i, _, _ => ⟨0, by simp [Instr.findAsking, findFrom], by simp [findFrom]⟩
  | e :: es, p :: l, j, i, ⟨hk, hv, h⟩, hj => by
    by_cases hx : p.x = x ∧ p.y = y
    · refine ⟨i, ?_, ?_⟩
      · have e1 : findFrom x y (p :: l) j = j := by simp [findFrom, hx]
        rw [e1, if_neg (by omega)]
        simp [Instr.findAsking, Sem.run_bind, hk, cellEqual, Result.andThen, hx.1, hx.2, hv]
      · intro _; simp [findFrom, hx]
    · obtain ⟨q, hq, hl⟩ := findAsking_cells x y w es l (j + 1) (i + 1) h (by omega)
      have e1 : findFrom x y (p :: l) j = findFrom x y l (j + 1) := by simp [findFrom, hx]
      have e2 : (x == p.x && y == p.y) = false := by
        cases h1 : (x == p.x) <;> cases h2 : (y == p.y) <;> simp
        exact hx ⟨by simpa using (beq_iff_eq.1 h1).symm, by simpa using (beq_iff_eq.1 h2).symm⟩
      refine ⟨q, ?_, fun hn => ?_⟩
      · rw [e1, ← hq]
        simp [Instr.findAsking, Sem.run_bind, hk, cellEqual, Result.andThen, e2]
      · rw [e1] at hn ⊢; have := hl hn; omega
  | [], _ :: _, _, _, h, _ => h.elim
  | _ :: _, [], _, _, h, _ => h.elim

theorem check_cell (em : Bool) (x y : Int) (w : World) : (Instr.checkKey em 10000 24 (cellV x y)).run Tryd.prog w = .ok () w := by kernel_rfl

theorem findKey_cells (x y : Int) (w : World) (es : List MapEntry) (l : List Pc) (h : EntAre es l 0) :
    ∃ q : Nat, (Instr.findKey 24 (cellV x y) es).run Tryd.prog w = .ok (if findFrom x y l 0 < 0 then none else some (q, .int .i64 (findFrom x y l 0))) w := by
  match es, l, h with
  | [], [], _ => exact ⟨0, by simp [Instr.findKey, Instr.findNow, findFrom, run_underlying Tryd.underlying24, Result.andThen]⟩
  | e :: es, p :: l, h =>
    obtain ⟨q, hq, _⟩ := findAsking_cells x y w (e :: es) (p :: l) 0 0 h (by omega)
    refine ⟨q, ?_⟩
    rw [← hq]
    simp [Instr.findKey, Instr.findNow, Instr.sameNow, Sem.run_bind, run_underlying Tryd.underlying24, Result.andThen]

/-- block B is a map whose entries are the cells of the pieces, with their indices -/
def MapAt (w : World) (B : Nat) (l : List Pc) : Prop := ∃ es clock, w.heap[B]? = some (.map es clock) ∧ EntAre es.toList l 0

theorem run_lookup_cells (x y : Int) (w : World) (B : Nat) (l : List Pc) (h : MapAt w B l) :
    (Instr.lookup 199 (.map (some B)) (cellV x y) true).run Tryd.prog w = .ok (.tuple #[.int .i64 (if findFrom x y l 0 < 0 then 0 else findFrom x y l 0), .bool (decide (0 ≤ findFrom x y l 0))]) w := by
  obtain ⟨es, clock, hb, he⟩ := h
  obtain ⟨q, hq⟩ := findKey_cells x y w es.toList l he
  have hg : (getObj B).run Tryd.prog w = .ok (.map es clock) w := Go.MapKept.run_getObj_map hb
  have hz : (zeroValue 2).run Tryd.prog w = .ok (.int .i64 0) w := by kernel_rfl
  simp only [Instr.lookup, Sem.run_bind, run_underlying Tryd.underlying199, Result.andThen_ok, hg, Sem.run_pure, check_cell, hq]
  by_cases hf : findFrom x y l 0 < 0
  · have h1 : ¬ 0 ≤ findFrom x y l 0 := by omega
    simp [hf, h1, hz, Result.andThen]
  · have h1 : 0 ≤ findFrom x y l 0 := by omega
    simp [hf, h1]

/-- a store of a cell that is not there yet -/
theorem run_update_cells (p : Pc) (w : World) (B : Nat) (l : List Pc) (h : MapAt w B l) (hn : findFrom p.x p.y l 0 < 0) :
    ∃ w', (Instr.mapUpdate 199 (.map (some B)) (cellV p.x p.y) (.int .i64 l.length)).run Tryd.prog w = .ok () w' ∧ MapAt w' B (l ++ [p]) ∧ (∀ k, k ≠ B → w'.heap[k]? = w.heap[k]?) ∧ w'.heap.size = w.heap.size ∧ w'.os = w.os ∧ w'.tape = w.tape ∧ w'.output = w.output := by
  obtain ⟨es, clock, hb, he⟩ := h
  obtain ⟨q, hq⟩ := findKey_cells p.x p.y w es.toList l he
  have hg : (getObj B).run Tryd.prog w = .ok (.map es clock) w := Go.MapKept.run_getObj_map hb
  have hs := Go.MapKept.run_setObj_map (P := Tryd.prog) (.map (es.push { key := cellV p.x p.y, val := .int .i64 l.length, born := clock }) (clock + 1)) hb
  rw [if_pos hn] at hq
  have hlt : B < w.heap.size := (Array.getElem?_eq_some_iff.1 hb).1
  refine ⟨{ w with heap := w.heap.setIfInBounds B (.map (es.push { key := cellV p.x p.y, val := .int .i64 l.length, born := clock }) (clock + 1)) }, ?_, ⟨es.push { key := cellV p.x p.y, val := .int .i64 l.length, born := clock }, clock + 1, ?_, ?_⟩, ?_, ?_, rfl, rfl, rfl⟩
  rotate_left
  · simp [hlt]
  · rw [Array.toList_push]; exact he.snoc rfl (by simp)
  · intro k hk; simp [Ne.symm hk]
  · simp
  · simp only [Instr.mapUpdate, Sem.run_bind, run_underlying Tryd.underlying199, Result.andThen_ok, hg, check_cell, hq]
    exact hs
end Go.Proofs.YtobhppkcgioheaaDoor

/- The program's layout of a board. -/
namespace Go.Proofs.YtobhppkcgioheaaDoor
open Go.ChangeShapes Go.WideShapes Go.ChangeAt Go.RowKit
set_option linter.unusedVariables false

theorem MapAt.below {W w' : World} {B : Nat} {l : List Pc} (h : MapAt W B l) (hb : Below W.heap.size W w') : MapAt w' B l := by
  obtain ⟨es, c, h1, h2⟩ := h
  exact ⟨es, c, (hb.block B (Array.getElem?_eq_some_iff.1 h1).1).trans h1, h2⟩
theorem findFrom_ge (x y : Int) : ∀ (l : List Pc) (j : Int), findFrom x y l j = -1 ∨ j ≤ findFrom x y l j
  | [], _ => .inl rfl
  | p :: l, j => by
    unfold findFrom
    split
    · right; omega
    · rcases findFrom_ge x y l (j + 1) with h | h
      · exact .inl h
      · right; omega

set_option maxHeartbeats 2000000 in
theorem indexAt_any (wd hi x y : Int) (B : Nat) (l : List Pc) (w : World) (h : MapAt w B l) :
    Calls Tryd.prog 151 #[.agg #[.int .i8 wd, .int .i8 hi, .map (some B)], .agg #[.int .i8 x, .int .i8 y]] w fun e w' => e = .returned (.int .i64 (findFrom x y l 0)) ∧ Below w.heap.size w w' := by
  have hk : Below w.heap.size w ((w.alloc (.cells #[.int .i8 wd, .int .i8 hi, .map (some B)] 201)).alloc (.cells #[.int .i8 x, .int .i8 y] 24)) := by repeat (first | with_reducible exact Below.refl _ _ | (with_reducible refine kSet ?_ ?hB _; case hB => (simp; try omega)) | with_reducible refine kAlloc ?_ _ | with_reducible refine Below.drew ?_ | with_reducible refine kDrewN ?_ _ | with_reducible refine kTrans ?_ (by assumption))
  have hl := run_lookup_cells x y _ B l (h.below hk)
  unfold cellV at hl
  have hf := findFrom_ge x y l 0
  generalize findFrom x y l 0 = f at hl hf
  by_cases h0 : f < 0
  · obtain rfl : f = -1 := by omega
    simp only [show (-1 : Int) < 0 by decide, if_true, show decide ((0 : Int) ≤ -1) = false by decide] at hl
    clear hf h0 h hk
    go_enter Tryd.func151, Tryd.ntmps151
    go_wp2
    go_ret
    exact ⟨rfl, by repeat (first | with_reducible exact Below.refl _ _ | (with_reducible refine kSet ?_ ?hB _; case hB => (simp; try omega)) | with_reducible refine kAlloc ?_ _ | with_reducible refine Below.drew ?_ | with_reducible refine kDrewN ?_ _ | with_reducible refine kTrans ?_ (by assumption))⟩
  · have h1 : 0 ≤ f := by omega
    rw [if_neg h0, show decide (0 ≤ f) = true by simpa using h1] at hl
    clear hf h0 h hk
    go_enter Tryd.func151, Tryd.ntmps151
    go_wp2
    go_ret
    exact ⟨rfl, by repeat (first | with_reducible exact Below.refl _ _ | (with_reducible refine kSet ?_ ?hB _; case hB => (simp; try omega)) | with_reducible refine kAlloc ?_ _ | with_reducible refine Below.drew ?_ | with_reducible refine kDrewN ?_ _ | with_reducible refine kTrans ?_ (by assumption))⟩
set_option maxHeartbeats 2000000 in
theorem allowed_any (wd hi : Int) (w : World) (b : Bool) (hb : b = decide (1 ≤ wd ∧ wd ≤ 24 ∧ 1 ≤ hi ∧ hi ≤ 24)) :
    Calls Tryd.prog 149 #[.agg #[.int .i8 wd, .int .i8 hi]] w fun e w' => e = .returned (.bool b) ∧ Below w.heap.size w w' := by
  by_cases h1 : 1 ≤ wd
  · by_cases h2 : wd ≤ 24
    · by_cases h3 : 1 ≤ hi
      · by_cases h4 : hi ≤ 24
        · obtain rfl : b = true := by rw [hb]; simp; omega
          clear hb
          go_enter Tryd.func149, Tryd.ntmps149
          go_wp2
          go_ret
          exact ⟨rfl, by repeat (first | with_reducible exact Below.refl _ _ | (with_reducible refine kSet ?_ ?hB _; case hB => (simp; try omega)) | with_reducible refine kAlloc ?_ _ | with_reducible refine Below.drew ?_ | with_reducible refine kDrewN ?_ _ | with_reducible refine kTrans ?_ (by assumption))⟩
        · obtain rfl : b = false := by rw [hb]; simp; omega
          have h4' : decide (hi ≤ 24) = false := by simp; omega
          clear hb h4
          go_enter Tryd.func149, Tryd.ntmps149
          go_wp2
          go_ret
          exact ⟨rfl, by repeat (first | with_reducible exact Below.refl _ _ | (with_reducible refine kSet ?_ ?hB _; case hB => (simp; try omega)) | with_reducible refine kAlloc ?_ _ | with_reducible refine Below.drew ?_ | with_reducible refine kDrewN ?_ _ | with_reducible refine kTrans ?_ (by assumption))⟩
      · obtain rfl : b = false := by rw [hb]; simp; omega
        have h3' : decide (1 ≤ hi) = false := by simp; omega
        clear hb h3
        go_enter Tryd.func149, Tryd.ntmps149
        go_wp2
        go_ret
        exact ⟨rfl, by repeat (first | with_reducible exact Below.refl _ _ | (with_reducible refine kSet ?_ ?hB _; case hB => (simp; try omega)) | with_reducible refine kAlloc ?_ _ | with_reducible refine Below.drew ?_ | with_reducible refine kDrewN ?_ _ | with_reducible refine kTrans ?_ (by assumption))⟩
    · obtain rfl : b = false := by rw [hb]; simp; omega
      have h2' : decide (wd ≤ 24) = false := by simp; omega
      clear hb h2
      go_enter Tryd.func149, Tryd.ntmps149
      go_wp2
      go_ret
      exact ⟨rfl, by repeat (first | with_reducible exact Below.refl _ _ | (with_reducible refine kSet ?_ ?hB _; case hB => (simp; try omega)) | with_reducible refine kAlloc ?_ _ | with_reducible refine Below.drew ?_ | with_reducible refine kDrewN ?_ _ | with_reducible refine kTrans ?_ (by assumption))⟩
  · obtain rfl : b = false := by rw [hb]; simp; omega
    have h1' : decide (1 ≤ wd) = false := by simp; omega
    clear hb h1
    go_enter Tryd.func149, Tryd.ntmps149
    go_wp2
    go_ret
    exact ⟨rfl, by repeat (first | with_reducible exact Below.refl _ _ | (with_reducible refine kSet ?_ ?hB _; case hB => (simp; try omega)) | with_reducible refine kAlloc ?_ _ | with_reducible refine Below.drew ?_ | with_reducible refine kDrewN ?_ _ | with_reducible refine kTrans ?_ (by assumption))⟩
end Go.Proofs.YtobhppkcgioheaaDoor

/- The program's layout of a board: the map of its cells, if the board is valid. -/
namespace Go.Proofs.YtobhppkcgioheaaDoor
open Go.ChangeShapes Go.WideShapes Go.ChangeAt Go.RowKit
set_option linter.unusedVariables false

theorem findFrom_take (x y : Int) : ∀ (l : List Pc) (k : Nat) (j : Int) (h : k < l.length), 0 ≤ j → l[k].x = x → l[k].y = y → (findFrom x y l j = j + k ↔ findFrom x y (l.take k) j < 0)
  | p :: l, 0, j, _, hj, hx, hy => by
    simp only [List.getElem_cons_zero] at hx hy
    simp [findFrom, hx, hy]
  | p :: l, k + 1, j, h, hj, hx, hy => by
    simp only [List.getElem_cons_succ] at hx hy
    rw [List.take_succ_cons]
    unfold findFrom
    by_cases hp : p.x = x ∧ p.y = y
    · rw [if_pos hp, if_pos hp]
      constructor <;> intro h <;> omega
    · rw [if_neg hp, if_neg hp]
      have := findFrom_take x y l k (j + 1) (by simpa using h) (by omega) hx hy
      rw [← this]
      constructor <;> intro h <;> (push_cast at * ; omega)
  | [], _, _, h, _, _, _ => by simp at h

theorem MapAt.set {w : World} {B : Nat} {l : List Pc} {a : Addr} {v : Value} (h : MapAt w B l) (hne : a.block ≠ B) : MapAt (w.setCell a v) B l := by
  obtain ⟨es, c, h1, h2⟩ := h
  exact ⟨es, c, (Below.heap_setCell _ _ _ _ (Ne.symm hne)).trans h1, h2⟩

/-- the blocks that the call has laid: the board's box, the result's, the map, the layout's -/
structure LoSt (wr : World) (s : Nat) (wd hi : Int) (v : Value) (l : List Pc) : Prop where
  t1 : wr.heap[s]? = some (.cells #[.int .i8 wd, .int .i8 hi, v] 33 (0, 0))
  t2 : wr.heap[s + 1]? = some (.cells #[.int .i8 0, .int .i8 0, .map none] 201 (0, 0))
  m : MapAt wr (s + 1 + 1) l
  t4 : wr.heap[s + 1 + 1 + 1]? = some (.cells #[.int .i8 wd, .int .i8 hi, .map (some (s + 1 + 1))] 201 (0, 0))
theorem LoSt.lt {wr : World} {s : Nat} {wd hi : Int} {v : Value} {l : List Pc} (h : LoSt wr s wd hi v l) : s + 1 + 1 + 1 < wr.heap.size := (Array.getElem?_eq_some_iff.1 h.t4).1
theorem LoSt.below {wr w' : World} {s : Nat} {wd hi : Int} {v : Value} {l : List Pc} (h : LoSt wr s wd hi v l) (hb : Below wr.heap.size wr w') : LoSt w' s wd hi v l :=
  have hl := h.lt
  ⟨(hb.block s (by omega)).trans h.t1, (hb.block (s + 1) (by omega)).trans h.t2, h.m.below hb, (hb.block (s + 1 + 1 + 1) (by omega)).trans h.t4⟩
theorem LoSt.start (w : World) (wd hi : Int) (v : Value) : LoSt ((((w.alloc (.cells #[.int .i8 wd, .int .i8 hi, v] 33)).alloc (.cells #[.int .i8 0, .int .i8 0, .map none] 201)).alloc (.map #[] 0)).alloc (.cells #[.int .i8 wd, .int .i8 hi, .map (some (w.heap.size + 1 + 1))] 201)) w.heap.size wd hi v [] := by
  refine ⟨?_, ?_, ⟨#[], 0, ?_, trivial⟩, ?_⟩
  · rw [Below.heap_alloc _ _ _ (by simp; try omega), Below.heap_alloc _ _ _ (by simp; try omega), Below.heap_alloc _ _ _ (by simp; try omega)]; exact heap_alloc_new _ _
  · rw [Below.heap_alloc _ _ _ (by simp; try omega), Below.heap_alloc _ _ _ (by simp; try omega)]
    have := heap_alloc_new (w.alloc (.cells #[.int .i8 wd, .int .i8 hi, v] 33)) (.cells #[.int .i8 0, .int .i8 0, .map none] 201)
    simpa only [World.size_alloc] using this
  · rw [Below.heap_alloc _ _ _ (by simp)]
    have := heap_alloc_new ((w.alloc (.cells #[.int .i8 wd, .int .i8 hi, v] 33)).alloc (.cells #[.int .i8 0, .int .i8 0, .map none] 201)) (.map #[] 0)
    simpa only [World.size_alloc] using this
  · have := heap_alloc_new (((w.alloc (.cells #[.int .i8 wd, .int .i8 hi, v] 33)).alloc (.cells #[.int .i8 0, .int .i8 0, .map none] 201)).alloc (.map #[] 0)) (.cells #[.int .i8 wd, .int .i8 hi, .map (some (w.heap.size + 1 + 1))] 201)
    simpa only [World.size_alloc] using this

/-- what layoutOf answers -/
def LoPost (R : Bool) (wd hi : Int) (l : List Pc) (w : World) (e : Ending) (w' : World) : Prop :=
  (R = true → ∃ B, e = .returned (.tuple #[.agg #[.int .i8 wd, .int .i8 hi, .map (some B)], .bool true]) ∧ MapAt w' B l) ∧
  (R = false → e = .returned (.tuple #[.agg #[.int .i8 0, .int .i8 0, .map none], .bool false])) ∧ Below w.heap.size w w'

set_option maxRecDepth 100000 in
set_option maxHeartbeats 4000000 in
theorem layoutOf_in (b o n cap : Nat) (wd hi : Int) (l : List Pc) (w : World) (hn : l.length = n) (hp : PcsAt w b o l) (hb : b < w.heap.size) (hc : n ≤ cap) (h8 : All8 l)
    (hw : 1 ≤ wd ∧ wd ≤ 24) (hh : 1 ≤ hi ∧ hi ≤ 24) (hl : n ≤ 200) (R : Bool) (hok : okFrom wd hi l 0 l = R) :
    Calls Tryd.prog 134 #[.agg #[.int .i8 wd, .int .i8 hi, .slice (some ⟨b, o, none⟩) n cap]] w (LoPost R wd hi l w) := by
  have Hn := Lib.hid hn
  have Hok : Hid (okFrom wd hi l 0 (l.drop 0) = R) := hok
  have hmm := @run_makeMap Tryd.prog
  have h200 : decide (200 < (n : Int)) = false := by simp; omega
  have hst := LoSt.start w wd hi (.slice (some ⟨b, o, none⟩) n cap)
  have Hst := Lib.hid hst
  clear hn hok hst
  go_enter Tryd.func134, Tryd.ntmps134
  go_wp2_with fail
  refine (allowed_any _ _ _ true (by simp; omega)).mono ?_
  rintro e w1 ⟨rfl, hb1⟩
  have hst1 := Hst.out.below hb1
  have hbb : Below w.heap.size w w1 := by repeat (first | with_reducible exact Below.refl _ _ | (with_reducible refine kSet ?_ ?hB _; case hB => (simp; try omega)) | with_reducible refine kAlloc ?_ _ | with_reducible refine Below.drew ?_ | with_reducible refine kDrewN ?_ _ | with_reducible refine kTrans ?_ (by assumption))
  have k0 : w1.cell? ⟨w.heap.size, 0, none⟩ = some (.int .i8 wd) := cell_of_row w1 _ 0 _ _ _ hst1.t1
  have k1 : w1.cell? ⟨w.heap.size, 1, none⟩ = some (.int .i8 hi) := cell_of_row w1 _ 1 _ _ _ hst1.t1
  have k2 : w1.cell? ⟨w.heap.size, 2, none⟩ = some (.slice (some ⟨b, o, none⟩) n cap) := cell_of_row w1 _ 2 _ _ _ hst1.t1
  have Hst1 := Lib.hid hst1
  clear Hst hb1 hst1
  go_wp2
  go_loopw [28] (fun i wr => ∃ k : Nat, k ≤ n ∧ i = .int .i64 k ∧ Hid (okFrom wd hi l k (l.drop k) = R) ∧ Hid (LoSt wr w.heap.size wd hi (.slice (some ⟨b, o, none⟩) n cap) (l.take k)) ∧ Below w.heap.size w wr) (fun i _ => n - (intOf i).toNat)
  case atStart => exact ⟨0, by omega, rfl, Hok, Hst1, hbb⟩
  case round =>
    obtain ⟨k, hk, rfl, hf, hst, hbr⟩ := hrel
    clear k0 k1 k2 Hok Hst1 hbb
    by_cases hlt : k < n
    · have hlk : k < l.length := by rw [Hn.out]; exact hlt
      have hpa := (hp.below hbr hb) k hlk
      have hd : l.drop k = l[k] :: l.drop (k + 1) := List.drop_eq_getElem_cons hlk
      have hp8 := h8 _ (List.getElem_mem hlk)
      have htk : l.take (k + 1) = l.take k ++ [l[k]] := List.take_succ_eq_append_getElem hlk
      have hft := findFrom_take l[k].x l[k].y l k 0 hlk (by omega) rfl rfl
      generalize l[k] = p at hd hpa hp8 htk hft
      have hok1 : (okOne wd hi l k p && okFrom wd hi l (k + 1) (l.drop (k + 1))) = R := by
        have := hf.out
        rw [hd] at this
        exact this
      obtain ⟨a0, a1, a2, a3, a4⟩ := hpa
      have hka : Below wr.heap.size wr (wr.alloc (.cells #[.int .i8 p.x, .int .i8 p.y, .int .i8 p.kind, .int .i8 p.turn, .int .i8 p.delay] 80)) := by repeat (first | with_reducible exact Below.refl _ _ | (with_reducible refine kSet ?_ ?hB _; case hB => (simp; try omega)) | with_reducible refine kAlloc ?_ _ | with_reducible refine Below.drew ?_ | with_reducible refine kDrewN ?_ _ | with_reducible refine kTrans ?_ (by assumption))
      have hsa := hst.out.below hka
      have hpb := PcAt.box wr p 80
      have hlw := hst.out.lt
      have Hsa := Lib.hid hsa
      have Hpb := Lib.hid hpb
      have Hft := Lib.hid hft
      have Htk := Lib.hid htk
      clear hp h8 hf hd hsa hpb hst hft htk
      cases g1 : p.ok with
      | false =>
        have hR : R = false := by rw [← hok1]; simp [okOne, g1]
        subst hR
        have G1 : Hid (false = p.ok) := g1.symm
        clear hok1 g1
        go_wp2_with fail
        refine (implValidPiece_any p _ hp8 false G1.out).mono ?_
        rintro e w2 ⟨rfl, hb2⟩
        have hs2 := Hsa.out.below hb2
        have hlt2 := hs2.lt
        have m0 : w2.cell? ⟨w.heap.size + 1 + 1 + 1, 0, none⟩ = some (.int .i8 wd) := cell_of_row w2 _ 0 _ _ _ hs2.t4
        have m1 : w2.cell? ⟨w.heap.size + 1 + 1 + 1, 1, none⟩ = some (.int .i8 hi) := cell_of_row w2 _ 1 _ _ _ hs2.t4
        have m2 : w2.cell? ⟨w.heap.size + 1 + 1 + 1, 2, none⟩ = some (.map (some (w.heap.size + 1 + 1))) := cell_of_row w2 _ 2 _ _ _ hs2.t4
        have z0 : w2.cell? ⟨w.heap.size + 1, 0, none⟩ = some (.int .i8 0) := cell_of_row w2 _ 0 _ _ _ hs2.t2
        have z1 : w2.cell? ⟨w.heap.size + 1, 1, none⟩ = some (.int .i8 0) := cell_of_row w2 _ 1 _ _ _ hs2.t2
        have z2 : w2.cell? ⟨w.heap.size + 1, 2, none⟩ = some (.map none) := cell_of_row w2 _ 2 _ _ _ hs2.t2
        have y0 : ∀ j, w2.frozen? ⟨w.heap.size + 1, j, none⟩ = false := fun j => frozen_of_row w2 _ j _ _ hs2.t2
        clear hs2 Hsa Hpb a0 a1 a2 a3 a4
        go_wp2
        exact bodyPost_ret (v := .tuple #[.agg #[.int .i8 0, .int .i8 0, .map none], .bool false]) (by simp [results, Tryd.results134, go_sem, z0, z1, z2]) rfl ⟨(fun h => nomatch h), fun _ => rfl, by repeat (first | with_reducible exact Below.refl _ _ | (with_reducible refine kSet ?_ ?hB _; case hB => (simp; try omega)) | with_reducible refine kAlloc ?_ _ | with_reducible refine Below.drew ?_ | with_reducible refine kDrewN ?_ _ | with_reducible refine kTrans ?_ (by assumption))⟩
      | true =>
        have G1 : Hid (true = p.ok) := g1.symm
        go_wp2_with fail
        refine (implValidPiece_any p _ hp8 true G1.out).mono ?_
        rintro e w2 ⟨rfl, hb2⟩
        have hs2 := Hsa.out.below hb2
        have hlt2 := hs2.lt
        have hw2 : wr.heap.size < w2.heap.size := by have := hb2.size; simp at this; omega
        obtain ⟨p0, p1, p2, p3, p4⟩ := Hpb.out.below hb2 (by simp)
        have hne : w.heap.size + 1 + 1 + 1 < wr.heap.size := hlw
        have m0 : w2.cell? ⟨w.heap.size + 1 + 1 + 1, 0, none⟩ = some (.int .i8 wd) := cell_of_row w2 _ 0 _ _ _ hs2.t4
        have m1 : w2.cell? ⟨w.heap.size + 1 + 1 + 1, 1, none⟩ = some (.int .i8 hi) := cell_of_row w2 _ 1 _ _ _ hs2.t4
        have m2 : w2.cell? ⟨w.heap.size + 1 + 1 + 1, 2, none⟩ = some (.map (some (w.heap.size + 1 + 1))) := cell_of_row w2 _ 2 _ _ _ hs2.t4
        have z0 : w2.cell? ⟨w.heap.size + 1, 0, none⟩ = some (.int .i8 0) := cell_of_row w2 _ 0 _ _ _ hs2.t2
        have z1 : w2.cell? ⟨w.heap.size + 1, 1, none⟩ = some (.int .i8 0) := cell_of_row w2 _ 1 _ _ _ hs2.t2
        have z2 : w2.cell? ⟨w.heap.size + 1, 2, none⟩ = some (.map none) := cell_of_row w2 _ 2 _ _ _ hs2.t2
        have y0 : ∀ j, w2.frozen? ⟨w.heap.size + 1, j, none⟩ = false := fun j => frozen_of_row w2 _ j _ _ hs2.t2
        have Hs2 := Lib.hid hs2
        clear hs2 Hsa a0 a1 a2 a3 a4
        by_cases g2 : 0 ≤ p.x ∧ p.x < wd ∧ 0 ≤ p.y ∧ p.y < hi
        · go_wp2_with fail
          refine (holds_any _ _ _ _ _ hp8.1 hp8.2.1 (by unfold i8; omega) (by unfold i8; omega) true (by simp; omega)).mono ?_
          rintro e w3 ⟨rfl, hb3⟩
          have hs3 := Hs2.out.below hb3
          have hlt3 := hs3.lt
          have hw3 : wr.heap.size < w3.heap.size := by have := hb3.size; omega
          obtain ⟨p0, p1, p2, p3, p4⟩ := (show PcAt w2 wr.heap.size 0 p from ⟨p0, p1, p2, p3, p4⟩).below hb3 hw2
          clear m0 m1 m2 z0 z1 z2 y0
          have m0 : w3.cell? ⟨w.heap.size + 1 + 1 + 1, 0, none⟩ = some (.int .i8 wd) := cell_of_row w3 _ 0 _ _ _ hs3.t4
          have m1 : w3.cell? ⟨w.heap.size + 1 + 1 + 1, 1, none⟩ = some (.int .i8 hi) := cell_of_row w3 _ 1 _ _ _ hs3.t4
          have m2 : w3.cell? ⟨w.heap.size + 1 + 1 + 1, 2, none⟩ = some (.map (some (w.heap.size + 1 + 1))) := cell_of_row w3 _ 2 _ _ _ hs3.t4
          have z0 : w3.cell? ⟨w.heap.size + 1, 0, none⟩ = some (.int .i8 0) := cell_of_row w3 _ 0 _ _ _ hs3.t2
          have z1 : w3.cell? ⟨w.heap.size + 1, 1, none⟩ = some (.int .i8 0) := cell_of_row w3 _ 1 _ _ _ hs3.t2
          have z2 : w3.cell? ⟨w.heap.size + 1, 2, none⟩ = some (.map none) := cell_of_row w3 _ 2 _ _ _ hs3.t2
          have y0 : ∀ j, w3.frozen? ⟨w.heap.size + 1, j, none⟩ = false := fun j => frozen_of_row w3 _ j _ _ hs3.t2
          obtain ⟨f, hfe⟩ : ∃ f, findFrom p.x p.y (l.take k) 0 = f := ⟨_, rfl⟩
          have hix := indexAt_any wd hi p.x p.y _ (l.take k) w3 hs3.m
          rw [hfe] at hix
          have Hix := Lib.hid hix
          have hft := Hft.out
          rw [hfe] at hft
          have Hfe := Lib.hid hfe
          have Hs3 := Lib.hid hs3
          clear hs3 hix hfe Hft
          go_wp2_with fail
          refine Hix.out.mono ?_
          rintro e w4 ⟨rfl, hb4⟩
          have hs4 := Hs3.out.below hb4
          have hlt4 := hs4.lt
          obtain ⟨p0, p1, p2, p3, p4⟩ := (show PcAt w3 wr.heap.size 0 p from ⟨p0, p1, p2, p3, p4⟩).below hb4 hw3
          clear m0 m1 m2 z0 z1 z2 y0
          have m0 : w4.cell? ⟨w.heap.size + 1 + 1 + 1, 0, none⟩ = some (.int .i8 wd) := cell_of_row w4 _ 0 _ _ _ hs4.t4
          have m1 : w4.cell? ⟨w.heap.size + 1 + 1 + 1, 1, none⟩ = some (.int .i8 hi) := cell_of_row w4 _ 1 _ _ _ hs4.t4
          have m2 : w4.cell? ⟨w.heap.size + 1 + 1 + 1, 2, none⟩ = some (.map (some (w.heap.size + 1 + 1))) := cell_of_row w4 _ 2 _ _ _ hs4.t4
          have z0 : w4.cell? ⟨w.heap.size + 1, 0, none⟩ = some (.int .i8 0) := cell_of_row w4 _ 0 _ _ _ hs4.t2
          have z1 : w4.cell? ⟨w.heap.size + 1, 1, none⟩ = some (.int .i8 0) := cell_of_row w4 _ 1 _ _ _ hs4.t2
          have z2 : w4.cell? ⟨w.heap.size + 1, 2, none⟩ = some (.map none) := cell_of_row w4 _ 2 _ _ _ hs4.t2
          have y0 : ∀ j, w4.frozen? ⟨w.heap.size + 1, j, none⟩ = false := fun j => frozen_of_row w4 _ j _ _ hs4.t2
          by_cases g3 : f < 0
          · have hR : okFrom wd hi l (k + 1) (l.drop (k + 1)) = R := by
              rw [← hok1]
              have : findFrom p.x p.y l 0 = k := by have := hft.2 g3; omega
              simp [okOne, g1, this]
              intro h; omega
            have HR := Lib.hid hR
            obtain ⟨w5, hu, hm5, hk5, hsz5, hos, htp, hout⟩ := run_update_cells p w4 _ (l.take k) hs4.m (by rw [Hfe.out]; exact g3)
            rw [show (l.take k).length = k by simp; omega] at hu
            unfold cellV at hu
            have hbw4 : Below w.heap.size w w4 := by repeat (first | with_reducible exact Below.refl _ _ | (with_reducible refine kSet ?_ ?hB _; case hB => (simp; try omega)) | with_reducible refine kAlloc ?_ _ | with_reducible refine Below.drew ?_ | with_reducible refine kDrewN ?_ _ | with_reducible refine kTrans ?_ (by assumption))
            have hbw5 : Below w.heap.size w w5 := hbw4.trans ⟨hos, htp, hout, by omega, fun q hq => hk5 q (by omega)⟩
            have hs5 : LoSt w5 w.heap.size wd hi (.slice (some ⟨b, o, none⟩) n cap) (l.take (k + 1)) := by
              rw [Htk.out]
              exact ⟨(hk5 _ (by omega)).trans hs4.t1, (hk5 _ (by omega)).trans hs4.t2, hm5, (hk5 _ (by omega)).trans hs4.t4⟩
            have Hs5 := Lib.hid hs5
            have Hb5 := Lib.hid hbw5
            clear hR hok1 g1 hft hm5 hk5 hsz5 hos htp hout hbw4 hbw5 hs5 hs4
            go_wp2
            exact ⟨⟨k + 1, by omega, by go_num, HR, Hs5, Hb5.out⟩, by simp [intOf]; omega⟩
          · have hR : R = false := by
              rw [← hok1]
              have : ¬ findFrom p.x p.y l 0 = k := fun h => g3 (hft.1 (by omega))
              simp [okOne, this]
            subst hR
            clear hok1 g1 hft hs4
            go_wp2
            exact bodyPost_ret (v := .tuple #[.agg #[.int .i8 0, .int .i8 0, .map none], .bool false]) (by simp [results, Tryd.results134, go_sem, z0, z1, z2]) rfl ⟨(fun h => nomatch h), fun _ => rfl, by repeat (first | with_reducible exact Below.refl _ _ | (with_reducible refine kSet ?_ ?hB _; case hB => (simp; try omega)) | with_reducible refine kAlloc ?_ _ | with_reducible refine Below.drew ?_ | with_reducible refine kDrewN ?_ _ | with_reducible refine kTrans ?_ (by assumption))⟩
        · have hR : R = false := by rw [← hok1]; simp [okOne]; intro _ h1 h2 h3 h4; omega
          subst hR
          clear hok1 g1
          go_wp2_with fail
          refine (holds_any _ _ _ _ _ hp8.1 hp8.2.1 (by unfold i8; omega) (by unfold i8; omega) false (by simpa using g2)).mono ?_
          rintro e w3 ⟨rfl, hb3⟩
          have hs3 := Hs2.out.below hb3
          clear m0 m1 m2 z0 z1 z2 y0 g2
          have m0 : w3.cell? ⟨w.heap.size + 1 + 1 + 1, 0, none⟩ = some (.int .i8 wd) := cell_of_row w3 _ 0 _ _ _ hs3.t4
          have m1 : w3.cell? ⟨w.heap.size + 1 + 1 + 1, 1, none⟩ = some (.int .i8 hi) := cell_of_row w3 _ 1 _ _ _ hs3.t4
          have m2 : w3.cell? ⟨w.heap.size + 1 + 1 + 1, 2, none⟩ = some (.map (some (w.heap.size + 1 + 1))) := cell_of_row w3 _ 2 _ _ _ hs3.t4
          have z0 : w3.cell? ⟨w.heap.size + 1, 0, none⟩ = some (.int .i8 0) := cell_of_row w3 _ 0 _ _ _ hs3.t2
          have z1 : w3.cell? ⟨w.heap.size + 1, 1, none⟩ = some (.int .i8 0) := cell_of_row w3 _ 1 _ _ _ hs3.t2
          have z2 : w3.cell? ⟨w.heap.size + 1, 2, none⟩ = some (.map none) := cell_of_row w3 _ 2 _ _ _ hs3.t2
          have y0 : ∀ j, w3.frozen? ⟨w.heap.size + 1, j, none⟩ = false := fun j => frozen_of_row w3 _ j _ _ hs3.t2
          clear hs3
          go_wp2
          exact bodyPost_ret (v := .tuple #[.agg #[.int .i8 0, .int .i8 0, .map none], .bool false]) (by simp [results, Tryd.results134, go_sem, z0, z1, z2]) rfl ⟨(fun h => nomatch h), fun _ => rfl, by repeat (first | with_reducible exact Below.refl _ _ | (with_reducible refine kSet ?_ ?hB _; case hB => (simp; try omega)) | with_reducible refine kAlloc ?_ _ | with_reducible refine Below.drew ?_ | with_reducible refine kDrewN ?_ _ | with_reducible refine kTrans ?_ (by assumption))⟩
    · have hkn : k = n := by omega
      have hR : R = true := by rw [← hf.out, List.drop_of_length_le (by rw [Hn.out]; omega)]; rfl
      subst hR
      have hs := hst.out
      rw [List.take_of_length_le (by rw [Hn.out]; omega)] at hs
      have hls := hs.lt
      have HM := Lib.hid hs.m
      have m0 : wr.cell? ⟨w.heap.size + 1 + 1 + 1, 0, none⟩ = some (.int .i8 wd) := cell_of_row wr _ 0 _ _ _ hs.t4
      have m1 : wr.cell? ⟨w.heap.size + 1 + 1 + 1, 1, none⟩ = some (.int .i8 hi) := cell_of_row wr _ 1 _ _ _ hs.t4
      have m2 : wr.cell? ⟨w.heap.size + 1 + 1 + 1, 2, none⟩ = some (.map (some (w.heap.size + 1 + 1))) := cell_of_row wr _ 2 _ _ _ hs.t4
      have z0 : wr.cell? ⟨w.heap.size + 1, 0, none⟩ = some (.int .i8 0) := cell_of_row wr _ 0 _ _ _ hs.t2
      have z1 : wr.cell? ⟨w.heap.size + 1, 1, none⟩ = some (.int .i8 0) := cell_of_row wr _ 1 _ _ _ hs.t2
      have z2 : wr.cell? ⟨w.heap.size + 1, 2, none⟩ = some (.map none) := cell_of_row wr _ 2 _ _ _ hs.t2
      have y0 : ∀ j, wr.frozen? ⟨w.heap.size + 1, j, none⟩ = false := fun j => frozen_of_row wr _ j _ _ hs.t2
      clear hf hp h8 hst hs hkn
      go_wp2
      exact bodyPost_ret (v := .tuple #[.agg #[.int .i8 wd, .int .i8 hi, .map (some (w.heap.size + 1 + 1))], .bool true]) (by simp [results, Tryd.results134, go_sem, z0, z1, z2]) rfl ⟨fun _ => ⟨_, rfl, by repeat (first | exact HM.out | refine MapAt.set ?_ (by simp))⟩, (fun h => nomatch h), by repeat (first | with_reducible exact Below.refl _ _ | (with_reducible refine kSet ?_ ?hB _; case hB => (simp; try omega)) | with_reducible refine kAlloc ?_ _ | with_reducible refine Below.drew ?_ | with_reducible refine kDrewN ?_ _ | with_reducible refine kTrans ?_ (by assumption))⟩

set_option maxHeartbeats 4000000 in
theorem layoutOf_any (b o n cap : Nat) (wd hi : Int) (l : List Pc) (w : World) (hn : l.length = n) (hp : PcsAt w b o l) (hb : b < w.heap.size) (hc : n ≤ cap) (h8 : All8 l) (hmax : n ≤ 1048576) (R : Bool) (hR : R = boardOk wd hi l) :
    Calls Tryd.prog 134 #[.agg #[.int .i8 wd, .int .i8 hi, .slice (some ⟨b, o, none⟩) n cap]] w (LoPost R wd hi l w) := by
  by_cases h1 : 1 ≤ wd ∧ wd ≤ 24 ∧ 1 ≤ hi ∧ hi ≤ 24
  · by_cases h3 : n ≤ 200
    · exact layoutOf_in b o n cap wd hi l w hn hp hb hc h8 ⟨h1.1, h1.2.1⟩ h1.2.2 h3 R (by rw [hR]; unfold boardOk; rw [hn]; simp [h1, h3])
    · obtain rfl : R = false := by rw [hR]; unfold boardOk; rw [hn]; simp; intro _ _ _ _ h; omega
      have h200 : decide (200 < (n : Int)) = true := by simp; omega
      have hmm := @run_makeMap Tryd.prog
      have hst := LoSt.start w wd hi (.slice (some ⟨b, o, none⟩) n cap)
      have Hst := Lib.hid hst
      have H1 := Lib.hid h1
      clear hR hp h8 hn h3 hst h1
      go_enter Tryd.func134, Tryd.ntmps134
      go_wp2_with fail
      refine (allowed_any _ _ _ true (by have := H1.out; simp; omega)).mono ?_
      rintro e w1 ⟨rfl, hb1⟩
      have hs1 := Hst.out.below hb1
      have k2 : w1.cell? ⟨w.heap.size, 2, none⟩ = some (.slice (some ⟨b, o, none⟩) n cap) := cell_of_row w1 _ 2 _ _ _ hs1.t1
      have z0 : w1.cell? ⟨w.heap.size + 1, 0, none⟩ = some (.int .i8 0) := cell_of_row w1 _ 0 _ _ _ hs1.t2
      have z1 : w1.cell? ⟨w.heap.size + 1, 1, none⟩ = some (.int .i8 0) := cell_of_row w1 _ 1 _ _ _ hs1.t2
      have z2 : w1.cell? ⟨w.heap.size + 1, 2, none⟩ = some (.map none) := cell_of_row w1 _ 2 _ _ _ hs1.t2
      have y0 : ∀ j, w1.frozen? ⟨w.heap.size + 1, j, none⟩ = false := fun j => frozen_of_row w1 _ j _ _ hs1.t2
      clear hs1 Hst
      go_wp2
      exact bodyPost_ret (v := .tuple #[.agg #[.int .i8 0, .int .i8 0, .map none], .bool false]) (by simp [results, Tryd.results134, go_sem, z0, z1, z2]) rfl ⟨(fun h => nomatch h), fun _ => rfl, by repeat (first | with_reducible exact Below.refl _ _ | (with_reducible refine kSet ?_ ?hB _; case hB => (simp; try omega)) | with_reducible refine kAlloc ?_ _ | with_reducible refine Below.drew ?_ | with_reducible refine kDrewN ?_ _ | with_reducible refine kTrans ?_ (by assumption))⟩
  · obtain rfl : R = false := by rw [hR]; unfold boardOk; simp; intro a b c d; exact absurd ⟨a, b, c, d⟩ h1
    have hmm := @run_makeMap Tryd.prog
    have hst := LoSt.start w wd hi (.slice (some ⟨b, o, none⟩) n cap)
    have Hst := Lib.hid hst
    have H1 : Hid (¬ (1 ≤ wd ∧ wd ≤ 24 ∧ 1 ≤ hi ∧ hi ≤ 24)) := h1
    clear hR hp h8 hn hst h1
    go_enter Tryd.func134, Tryd.ntmps134
    go_wp2_with fail
    refine (allowed_any _ _ _ false (by have := H1.out; simpa using this)).mono ?_
    rintro e w1 ⟨rfl, hb1⟩
    have hs1 := Hst.out.below hb1
    have z0 : w1.cell? ⟨w.heap.size + 1, 0, none⟩ = some (.int .i8 0) := cell_of_row w1 _ 0 _ _ _ hs1.t2
    have z1 : w1.cell? ⟨w.heap.size + 1, 1, none⟩ = some (.int .i8 0) := cell_of_row w1 _ 1 _ _ _ hs1.t2
    have z2 : w1.cell? ⟨w.heap.size + 1, 2, none⟩ = some (.map none) := cell_of_row w1 _ 2 _ _ _ hs1.t2
    have y0 : ∀ j, w1.frozen? ⟨w.heap.size + 1, j, none⟩ = false := fun j => frozen_of_row w1 _ j _ _ hs1.t2
    clear hs1 Hst
    go_wp2
    exact bodyPost_ret (v := .tuple #[.agg #[.int .i8 0, .int .i8 0, .map none], .bool false]) (by simp [results, Tryd.results134, go_sem, z0, z1, z2]) rfl ⟨(fun h => nomatch h), fun _ => rfl, by repeat (first | with_reducible exact Below.refl _ _ | (with_reducible refine kSet ?_ ?hB _; case hB => (simp; try omega)) | with_reducible refine kAlloc ?_ _ | with_reducible refine Below.drew ?_ | with_reducible refine kDrewN ?_ _ | with_reducible refine kTrans ?_ (by assumption))⟩
end Go.Proofs.YtobhppkcgioheaaDoor

/- ValidBoard: the program and the model. -/
namespace Go.Proofs.YtobhppkcgioheaaDoor
open Go.ChangeShapes Go.WideShapes Go.ChangeAt Go.RowKit
set_option linter.unusedVariables false

theorem BdAt.box (w : World) (wd hi : Int) (v : Value) (t : TypeId) : BdAt (w.alloc (.cells #[.int .i8 wd, .int .i8 hi, v] t)) w.heap.size 0 wd hi v := by
  refine ⟨?_, ?_, ?_⟩ <;> simp

set_option maxHeartbeats 1000000 in
theorem implValidBoard_any (b o n cap : Nat) (wd hi : Int) (l : List Pc) (w : World) (hn : l.length = n) (hp : PcsAt w b o l) (hb : b < w.heap.size) (hc : n ≤ cap) (h8 : All8 l) (hmax : n ≤ 1048576) (R : Bool) (hR : R = boardOk wd hi l) :
    Calls Tryd.prog 106 #[.agg #[.int .i8 wd, .int .i8 hi, .slice (some ⟨b, o, none⟩) n cap]] w fun e w' => e = .returned (.bool R) ∧ Below w.heap.size w w' := by
  have hk : Below w.heap.size w (w.alloc (.cells #[.int .i8 wd, .int .i8 hi, .slice (some ⟨b, o, none⟩) n cap] 33)) := by repeat (first | with_reducible exact Below.refl _ _ | (with_reducible refine kSet ?_ ?hB _; case hB => (simp; try omega)) | with_reducible refine kAlloc ?_ _ | with_reducible refine Below.drew ?_ | with_reducible refine kDrewN ?_ _ | with_reducible refine kTrans ?_ (by assumption))
  have hx := layoutOf_any b o n cap wd hi l _ hn (hp.below hk hb) (by simp; omega) hc h8 hmax R hR
  have Hx := Lib.hid hx
  clear hx hk hn hp h8 hR
  cases R with
  | true =>
    go_enter Tryd.func106, Tryd.ntmps106
    go_wp2_with fail
    refine Hx.out.mono ?_
    rintro e w1 ⟨h1, _, hb1⟩
    obtain ⟨B, rfl, _⟩ := h1 rfl
    clear h1
    go_wp2
    go_ret
    exact ⟨rfl, by repeat (first | with_reducible exact Below.refl _ _ | (with_reducible refine kSet ?_ ?hB _; case hB => (simp; try omega)) | with_reducible refine kAlloc ?_ _ | with_reducible refine Below.drew ?_ | with_reducible refine kDrewN ?_ _ | with_reducible refine kTrans ?_ (by assumption))⟩
  | false =>
    go_enter Tryd.func106, Tryd.ntmps106
    go_wp2_with fail
    refine Hx.out.mono ?_
    rintro e w1 ⟨_, h1, hb1⟩
    obtain rfl := h1 rfl
    clear h1
    go_wp2
    go_ret
    exact ⟨rfl, by repeat (first | with_reducible exact Below.refl _ _ | (with_reducible refine kSet ?_ ?hB _; case hB => (simp; try omega)) | with_reducible refine kAlloc ?_ _ | with_reducible refine Below.drew ?_ | with_reducible refine kDrewN ?_ _ | with_reducible refine kTrans ?_ (by assumption))⟩
end Go.Proofs.YtobhppkcgioheaaDoor

/- PieceAt: the program and the model. -/
namespace Go.Proofs.YtobhppkcgioheaaDoor
open Go.ChangeShapes Go.WideShapes Go.ChangeAt Go.RowKit
set_option linter.unusedVariables false

/-- the answer and the code -/
def pieceAtM (R : Bool) (f : Int) : Int × Int := if R then (if f < 0 then (0, 6) else (f, 0)) else (0, 1)

end Go.Proofs.YtobhppkcgioheaaDoor

/- CountKinds: the program and the model. -/
namespace Go.Proofs.YtobhppkcgioheaaDoor
open Go.ChangeShapes Go.WideShapes Go.ChangeAt Go.RowKit
set_option linter.unusedVariables false

/-- how many pieces are of a kind -/
def cntK (j : Int) : List Pc → Int
  | [] => 0
  | p :: l => cntK j l + (if p.kind = j then 1 else 0)
theorem cntK_snoc (j : Int) (p : Pc) : ∀ l : List Pc, cntK j (l ++ [p]) = cntK j l + (if p.kind = j then 1 else 0)
  | [] => by simp [cntK]
  | q :: l => by simp only [List.cons_append, cntK, cntK_snoc j p l]; omega
theorem cntK_le (j : Int) : ∀ l : List Pc, 0 ≤ cntK j l ∧ cntK j l ≤ l.length
  | [] => by simp [cntK]
  | q :: l => by have := cntK_le j l; simp only [cntK, List.length_cons]; split <;> omega
theorem okFrom_ok {wd hi : Int} {l : List Pc} : ∀ (r : List Pc) (i : Nat), okFrom wd hi l i r = true → ∀ p ∈ r, p.ok = true
  | [], _, _, p, hp => by simp at hp
  | q :: r, i, h, p, hp => by
    simp only [okFrom, Bool.and_eq_true, okOne] at h
    rcases List.mem_cons.1 hp with rfl | hp
    · exact h.1.1.1
    · exact okFrom_ok r (i + 1) h.2 p hp
theorem boardOk_ok {wd hi : Int} {l : List Pc} (h : boardOk wd hi l = true) : ∀ p ∈ l, p.ok = true := by
  simp only [boardOk, Bool.and_eq_true] at h
  exact okFrom_ok l 0 h.2
theorem boardOk_len {wd hi : Int} {l : List Pc} (h : boardOk wd hi l = true) : l.length ≤ 200 := by
  simp only [boardOk, Bool.and_eq_true, decide_eq_true_eq] at h
  exact h.1.2.2.2.2
theorem Pc.ok_kind {p : Pc} (h : p.ok = true) : 0 ≤ p.kind ∧ p.kind ≤ 5 := by
  have := of_decide_eq_true h
  omega
/-- six numbers in a row of cells -/
def SixAt (w : World) (b : Nat) (l : List Pc) : Prop := ∀ j : Nat, j < 6 → w.cell? ⟨b, j, none⟩ = some (.int .i64 (cntK j l))
def sixV (l : List Pc) : Value := .agg #[.int .i64 (cntK 0 l), .int .i64 (cntK 1 l), .int .i64 (cntK 2 l), .int .i64 (cntK 3 l), .int .i64 (cntK 4 l), .int .i64 (cntK 5 l)]
/-- the call's boxes: the board's, the result's, the counts' -/
structure CkSt (wr : World) (s : Nat) (wd hi : Int) (v : Value) (l : List Pc) : Prop where
  t1 : BdAt wr s 0 wd hi v
  t2 : ∀ j : Nat, j < 6 → wr.cell? ⟨s + 1, j, none⟩ = some (.int .i64 0)
  f2 : ∀ j, wr.frozen? ⟨s + 1, j, none⟩ = false
  t3 : SixAt wr (s + 1 + 1) l
  f3 : ∀ j, wr.frozen? ⟨s + 1 + 1, j, none⟩ = false
  lt : s + 1 + 1 < wr.heap.size
theorem CkSt.below {wr w' : World} {s : Nat} {wd hi : Int} {v : Value} {l : List Pc} (h : CkSt wr s wd hi v l) (hb : Below wr.heap.size wr w') : CkSt w' s wd hi v l :=
  have hl := h.lt
  ⟨h.t1.below hb (by omega), fun j hj => (hb.cell (p := ⟨s + 1, j, none⟩) (by simp; omega)).trans (h.t2 j hj), fun j => (hb.frozen (p := ⟨s + 1, j, none⟩) (by simp; omega)).trans (h.f2 j),
    fun j hj => (hb.cell (p := ⟨s + 1 + 1, j, none⟩) hl).trans (h.t3 j hj), fun j => (hb.frozen (p := ⟨s + 1 + 1, j, none⟩) hl).trans (h.f3 j), Nat.lt_of_lt_of_le hl hb.size⟩
theorem CkSt.store {wr : World} {s : Nat} {wd hi : Int} {v : Value} {l : List Pc} (h : CkSt wr s wd hi v l) (p : Pc) (j : Nat) (hj : j < 6) (hp : p.kind = j) (z : Int) (hz : z = cntK j l + 1) : CkSt (wr.setCell ⟨s + 1 + 1, j, none⟩ (.int .i64 z)) s wd hi v (l ++ [p]) := by
  have ne : ∀ (b i : Nat), b ≠ s + 1 + 1 → (⟨s + 1 + 1, j, none⟩ : Addr) ≠ ⟨b, i, none⟩ := by intro b i hb e; injection e with h1 _ _; exact hb h1.symm
  obtain ⟨⟨h0, h1, h2⟩, t2, f2, t3, f3, lt⟩ := h
  refine ⟨⟨?_, ?_, ?_⟩, fun i hi => ?_, fun i => ?_, fun i hi => ?_, fun i => ?_, by simpa [World.size_setCell] using lt⟩
  · rw [World.cell?_setCell_other _ _ _ _ (ne _ _ (by omega))]; exact h0
  · rw [World.cell?_setCell_other _ _ _ _ (ne _ _ (by omega))]; exact h1
  · rw [World.cell?_setCell_other _ _ _ _ (ne _ _ (by omega))]; exact h2
  · rw [World.cell?_setCell_other _ _ _ _ (ne _ _ (by omega))]; exact t2 i hi
  · rw [World.frozen?_setCell]; exact f2 i
  · rw [cntK_snoc, hp]
    by_cases e : i = j
    · subst e
      rw [World.cell?_setCell_same _ _ _ (t3 i hi), hz, if_pos rfl]
    · rw [World.cell?_setCell_other _ _ _ _ (by intro e2; injection e2 with _ h2 _; exact e h2.symm), if_neg (by omega), Int.add_zero]; exact t3 i hi
  · rw [World.frozen?_setCell]; exact f3 i
theorem CkSt.start (w : World) (wd hi : Int) (v : Value) (t t6 : TypeId) : CkSt (((w.alloc (.cells #[.int .i8 wd, .int .i8 hi, v] t)).alloc (.cells #[.int .i64 0, .int .i64 0, .int .i64 0, .int .i64 0, .int .i64 0, .int .i64 0] t6)).alloc (.cells #[.int .i64 0, .int .i64 0, .int .i64 0, .int .i64 0, .int .i64 0, .int .i64 0] t6)) w.heap.size wd hi v [] := by
  have b1 : Below (w.alloc (.cells #[.int .i8 wd, .int .i8 hi, v] t)).heap.size (w.alloc (.cells #[.int .i8 wd, .int .i8 hi, v] t)) (((w.alloc (.cells #[.int .i8 wd, .int .i8 hi, v] t)).alloc (.cells #[.int .i64 0, .int .i64 0, .int .i64 0, .int .i64 0, .int .i64 0, .int .i64 0] t6)).alloc (.cells #[.int .i64 0, .int .i64 0, .int .i64 0, .int .i64 0, .int .i64 0, .int .i64 0] t6)) := kAlloc (kAlloc (Below.refl _ _) _) _
  have b2 : Below ((w.alloc (.cells #[.int .i8 wd, .int .i8 hi, v] t)).alloc (.cells #[.int .i64 0, .int .i64 0, .int .i64 0, .int .i64 0, .int .i64 0, .int .i64 0] t6)).heap.size ((w.alloc (.cells #[.int .i8 wd, .int .i8 hi, v] t)).alloc (.cells #[.int .i64 0, .int .i64 0, .int .i64 0, .int .i64 0, .int .i64 0, .int .i64 0] t6)) (((w.alloc (.cells #[.int .i8 wd, .int .i8 hi, v] t)).alloc (.cells #[.int .i64 0, .int .i64 0, .int .i64 0, .int .i64 0, .int .i64 0, .int .i64 0] t6)).alloc (.cells #[.int .i64 0, .int .i64 0, .int .i64 0, .int .i64 0, .int .i64 0, .int .i64 0] t6)) := kAlloc (Below.refl _ _) _
  have six : ∀ (x : World) (j : Nat), j < 6 → (x.alloc (.cells #[.int .i64 0, .int .i64 0, .int .i64 0, .int .i64 0, .int .i64 0, .int .i64 0] t6)).cell? ⟨x.heap.size, j, none⟩ = some (.int .i64 0) := by
    intro x j hj
    have : j = 0 ∨ j = 1 ∨ j = 2 ∨ j = 3 ∨ j = 4 ∨ j = 5 := by omega
    rcases this with rfl | rfl | rfl | rfl | rfl | rfl <;> simp
  have frz : ∀ (x : World) (j : Nat), (x.alloc (.cells #[.int .i64 0, .int .i64 0, .int .i64 0, .int .i64 0, .int .i64 0, .int .i64 0] t6)).frozen? ⟨x.heap.size, j, none⟩ = false := fun x j => frozen_of_row _ _ j _ _ (heap_alloc_new _ _)
  have e1 : (w.alloc (.cells #[.int .i8 wd, .int .i8 hi, v] t)).heap.size = w.heap.size + 1 := by simp
  have e2 : ((w.alloc (.cells #[.int .i8 wd, .int .i8 hi, v] t)).alloc (.cells #[.int .i64 0, .int .i64 0, .int .i64 0, .int .i64 0, .int .i64 0, .int .i64 0] t6)).heap.size = w.heap.size + 1 + 1 := by simp
  refine ⟨(BdAt.box w wd hi v t).below b1 (by simp), fun j hj => ?_, fun j => ?_, fun j hj => ?_, fun j => ?_, by simp⟩
  · have := six (w.alloc (.cells #[.int .i8 wd, .int .i8 hi, v] t)) j hj
    rw [e1] at this
    exact (b2.cell (p := ⟨w.heap.size + 1, j, none⟩) (by simp)).trans this
  · have := frz (w.alloc (.cells #[.int .i8 wd, .int .i8 hi, v] t)) j
    rw [e1] at this
    exact (b2.frozen (p := ⟨w.heap.size + 1, j, none⟩) (by simp)).trans this
  · have := six ((w.alloc (.cells #[.int .i8 wd, .int .i8 hi, v] t)).alloc (.cells #[.int .i64 0, .int .i64 0, .int .i64 0, .int .i64 0, .int .i64 0, .int .i64 0] t6)) j hj
    rw [e2] at this
    exact this
  · have := frz ((w.alloc (.cells #[.int .i8 wd, .int .i8 hi, v] t)).alloc (.cells #[.int .i64 0, .int .i64 0, .int .i64 0, .int .i64 0, .int .i64 0, .int .i64 0] t6)) j
    rw [e2] at this
    exact this

end Go.Proofs.YtobhppkcgioheaaDoor
