/- The model's check of a board. -/
import Derived.Test.YthancdlkkfegnaaFind
import Derived.IntWalk
namespace Go.Proofs.Ythancdlkkfegnaa
open Go.ChangeShapes Go.WideShapes Go.ChangeAt Go.RowKit
set_option linter.unusedVariables false

/-- a piece of a board: it is valid, in one of its cells, and the first one there -/
def okOne (wd hi : Int) (l : List Pc) (i : Nat) (p : Pc) : Bool := p.ok && decide (0 ≤ p.x ∧ p.x ≤ wd - 1 ∧ 0 ≤ p.y ∧ p.y ≤ hi - 1) && decide (findFrom p.x p.y l 0 = i)
/-- the pieces from the i-th on -/
def okFrom (wd hi : Int) (l : List Pc) : Nat → List Pc → Bool
  | _, [] => true
  | i, p :: r => okOne wd hi l i p && okFrom wd hi l (i + 1) r
def boardOk (wd hi : Int) (l : List Pc) : Bool := decide (1 ≤ wd ∧ wd ≤ 24 ∧ 1 ≤ hi ∧ hi ≤ 24 ∧ l.length ≤ 200) && okFrom wd hi l 0 l

/-- A region that draws its order, whose operations read what has been there and whose callees make memory alone: one walk in the order of the text. -/
theorem wp_region_class {P : Program} (C : World → Prop) {id : Nat} {Q : Exit → Act → World → Prop} {a : Act} {w : World} {l : List Oper} (hm : P.follows .mixedOrders = true) (hB : Region.lexB .any l.toArray = true) (hC : C { w with drawn := w.drawn + 1 })
    (h : wpQuiet P l.toArray C (fun a' => ∀ w', C w' → Q .normal a' w') l a) : (Code.region id l.toArray true).wp P Q a w :=
  wp_region_quiet (C := C) hm hB hC (by simpa using h)
theorem l01Find_to (bb bo b o n cap : Nat) (wd hi x y R : Int) (l : List Pc) (w : World) (hn : l.length = n) (hbd : BdAt w bb bo wd hi (.slice (some ⟨b, o, none⟩) n cap)) (hp : PcsAt w b o l) (hb : b < w.heap.size) (hc : n ≤ cap) (hmax : n ≤ 1048576) (hR : findFrom x y l 0 = R) :
    Calls Try.prog 72 #[.pointer (some ⟨bb, bo, none⟩), .agg #[.int .i8 x, .int .i8 y]] w fun e w' => e = .returned (.int .i64 R) ∧ Below w.heap.size w w' := by
  subst hR; exact l01Find_any bb bo b o n cap wd hi x y l w hn hbd hp hb hc hmax
set_option maxRecDepth 100000 in
set_option maxHeartbeats 4000000 in
theorem l01Ok_in (bb bo b o n cap : Nat) (wd hi : Int) (l : List Pc) (w : World) (hn : l.length = n) (hbd : BdAt w bb bo wd hi (.slice (some ⟨b, o, none⟩) n cap)) (hp : PcsAt w b o l) (hb : b < w.heap.size) (hc : n ≤ cap) (h8 : All8 l)
    (hw : 1 ≤ wd ∧ wd ≤ 24) (hh : 1 ≤ hi ∧ hi ≤ 24) (hl : n ≤ 200) (R : Bool) (hok : okFrom wd hi l 0 l = R) :
    Calls Try.prog 66 #[.pointer (some ⟨bb, bo, none⟩)] w fun e w' => e = .returned (.bool R) ∧ Below w.heap.size w w' := by
  have Hn := Lib.hid hn
  have hbb := hbd.lt
  have Hok : Hid (okFrom wd hi l 0 (l.drop 0) = R) := hok
  obtain ⟨q0, q1, q2⟩ := hbd
  clear hn hok
  have h200 : decide (200 < (n : Int)) = false := by simp; omega
  go_enter Try.func66, Try.ntmps66
  go_wp2_with (go_at_call 84; refine (l00In_yes _ _ _ _ (by omega) (by omega)).mono ?_; rintro e w' ⟨rfl, rfl⟩)
  go_loopw [3, 4] (fun i _ wr => ∃ k : Nat, k ≤ n ∧ i = .int .i64 k ∧ Hid (okFrom wd hi l k (l.drop k) = R) ∧ Below w.heap.size w wr) (fun i _ _ => n - (intOf i).toNat)
  case atStart => exact ⟨0, by omega, rfl, Hok, Below.refl _ _⟩
  case round =>
    obtain ⟨k, hk, rfl, hf, hbr⟩ := hrel
    have hq : BdAt wr bb bo wd hi (.slice (some ⟨b, o, none⟩) n cap) := BdAt.below ⟨q0, q1, q2⟩ hbr hbb
    clear q0 q1 q2
    have Hq := Lib.hid hq
    obtain ⟨q0, q1, q2⟩ := hq
    by_cases hlt : k < n
    · have hlk : k < l.length := by rw [Hn.out]; exact hlt
      have hps := hp.below hbr hb
      have Hps := Lib.hid hps
      have hpa := hps k hlk
      have hd : l.drop k = l[k] :: l.drop (k + 1) := List.drop_eq_getElem_cons hlk
      have hp8 := h8 _ (List.getElem_mem hlk)
      generalize l[k] = p at hd hpa hp8
      have hok1 : (okOne wd hi l k p && okFrom wd hi l (k + 1) (l.drop (k + 1))) = R := by
        have := hf.out
        rw [hd] at this
        exact this
      have hbw := Nat.lt_of_lt_of_le hb hbr.size
      have hbbw := Nat.lt_of_lt_of_le hbb hbr.size
      obtain ⟨a0, a1, a2, a3, a4⟩ := id hpa
      have Hpa := Lib.hid hpa
      have w1e : IntKind.i64.wrap wd = wd := IntWalk.i64_in _ (by omega)
      have w2e : IntKind.i64.wrap hi = hi := IntWalk.i64_in _ (by omega)
      clear hp h8 hf Hok hd hps hpa
      cases g1 : p.ok with
      | false =>
        have hR : R = false := by rw [← hok1]; simp [okOne, g1]
        subst hR
        have G1 : Hid (false = p.ok) := g1.symm
        clear hok1 g1
        go_wp2
        refine wp_region_class (fun w' => Below wr.heap.size wr w') (by kernel_rfl) (by kernel_rfl) (Below.drew (Below.refl _ _)) ?_
        repeat (first
          | go_big_quiet_skip
          | (go_big_quiet_want; go_big_quiet_op; go_big_quiet_on)
          | (refine wpQuiet_step (fun K hK => ?_)
             go_simp
             refine hK _ ?_
             clear hK K)
          | (refine wpQuiet_step (fun K hK => ?_)
             go_simp
             apply Exists.intro
             refine ⟨fun w1 hw1 => ?_, hK _ ?_⟩
             · first
               | exact rfl
               | (go_at_call 74
                  exact (l01Piece_any p _ _ _ hp8 (Hpa.out.below hw1 hbw) false G1.out).mono fun e w2 h => ⟨h.1, kTrans hw1 h.2⟩)
             clear hK K))
        refine wpQuiet_nil ?_
        intro w2 hw2
        clear w1e w2e
        go_wp2
        go_ret
        exact ⟨rfl, kTrans hbr hw2⟩
      | true =>
        have G1 : Hid (true = p.ok) := g1.symm
        by_cases g2 : 0 ≤ p.x ∧ p.x ≤ wd - 1 ∧ 0 ≤ p.y ∧ p.y ≤ hi - 1
        · by_cases g3 : findFrom p.x p.y l 0 = k
          · have hR : okFrom wd hi l (k + 1) (l.drop (k + 1)) = R := by rw [← hok1]; simp [okOne, g1, g2, g3]
            have HR := Lib.hid hR
            have G3 := Lib.hid g3
            clear hok1 g1 g3 hR
            go_wp2
            refine wp_region_class (fun w' => Below wr.heap.size wr w') (by kernel_rfl) (by kernel_rfl) (Below.drew (Below.refl _ _)) ?_
            repeat (first
              | go_big_quiet_skip
              | (go_big_quiet_want; go_big_quiet_op; go_big_quiet_on)
              | (refine wpQuiet_step (fun K hK => ?_)
                 go_simp
                 refine hK _ ?_
                 clear hK K)
              | (refine wpQuiet_step (fun K hK => ?_)
                 go_simp
                 apply Exists.intro
                 refine ⟨fun w1 hw1 => ?_, hK _ ?_⟩
                 · first
                   | exact rfl
                   | (go_at_call 74
                      exact (l01Piece_any p _ _ _ hp8 (Hpa.out.below hw1 hbw) true G1.out).mono fun e w2 h => ⟨h.1, kTrans hw1 h.2⟩)
                   | (go_at_call 75
                      exact (l01In_any _ _ _ _ _ hp8.1 hp8.2.1 (by omega) (by omega) true (by simp; omega)).mono fun e w2 h => ⟨h.1, kTrans hw1 h.2⟩)
                   | (go_at_call 72
                      exact (l01Find_to bb bo b o n cap wd hi p.x p.y k l _ Hn.out (Hq.out.below hw1 hbbw) (Hps.out.below hw1 hbw) (Nat.lt_of_lt_of_le hbw hw1.size) hc (by omega) G3.out).mono fun e w2 h => ⟨h.1, kTrans hw1 h.2⟩)
                   | (have c0 := (hw1.cell (p := ⟨b, o + k * 5, none⟩) hbw).trans a0
                      have c1 := (hw1.cell (p := ⟨b, o + k * 5 + 1, none⟩) hbw).trans a1
                      have e0 := (hw1.cell (p := ⟨bb, bo, none⟩) hbbw).trans q0
                      have e1 := (hw1.cell (p := ⟨bb, bo + 1, none⟩) hbbw).trans q1
                      go_simp
                      exact rfl)
                 clear hK K))
            refine wpQuiet_nil ?_
            intro w2 hw2
            clear w1e w2e
            go_wp2
            exact ⟨⟨k + 1, by omega, by go_num, HR, kTrans hbr hw2⟩, by simp [intOf]; omega⟩
          · have hR : R = false := by rw [← hok1]; simp [okOne, g3]
            subst hR
            obtain ⟨z, hz⟩ : ∃ z, findFrom p.x p.y l 0 = z := ⟨_, rfl⟩
            have G3 := Lib.hid hz
            have hzk : (z == (k : Int)) = false := by simpa [hz] using g3
            have hzk2 : (z != (k : Int)) = true := by simpa [hz] using g3
            clear hok1 g1 g3 hz
            go_wp2
            refine wp_region_class (fun w' => Below wr.heap.size wr w') (by kernel_rfl) (by kernel_rfl) (Below.drew (Below.refl _ _)) ?_
            repeat (first
              | go_big_quiet_skip
              | (go_big_quiet_want; go_big_quiet_op; go_big_quiet_on)
              | (refine wpQuiet_step (fun K hK => ?_)
                 go_simp
                 refine hK _ ?_
                 clear hK K)
              | (refine wpQuiet_step (fun K hK => ?_)
                 go_simp
                 apply Exists.intro
                 refine ⟨fun w1 hw1 => ?_, hK _ ?_⟩
                 · first
                   | exact rfl
                   | (go_at_call 74
                      exact (l01Piece_any p _ _ _ hp8 (Hpa.out.below hw1 hbw) true G1.out).mono fun e w2 h => ⟨h.1, kTrans hw1 h.2⟩)
                   | (go_at_call 75
                      exact (l01In_any _ _ _ _ _ hp8.1 hp8.2.1 (by omega) (by omega) true (by simp; omega)).mono fun e w2 h => ⟨h.1, kTrans hw1 h.2⟩)
                   | (go_at_call 72
                      exact (l01Find_to bb bo b o n cap wd hi p.x p.y z l _ Hn.out (Hq.out.below hw1 hbbw) (Hps.out.below hw1 hbw) (Nat.lt_of_lt_of_le hbw hw1.size) hc (by omega) G3.out).mono fun e w2 h => ⟨h.1, kTrans hw1 h.2⟩)
                   | (have c0 := (hw1.cell (p := ⟨b, o + k * 5, none⟩) hbw).trans a0
                      have c1 := (hw1.cell (p := ⟨b, o + k * 5 + 1, none⟩) hbw).trans a1
                      have e0 := (hw1.cell (p := ⟨bb, bo, none⟩) hbbw).trans q0
                      have e1 := (hw1.cell (p := ⟨bb, bo + 1, none⟩) hbbw).trans q1
                      go_simp
                      exact rfl)
                 clear hK K))
            refine wpQuiet_nil ?_
            intro w2 hw2
            clear w1e w2e
            go_wp2
            go_ret
            exact ⟨rfl, kTrans hbr hw2⟩
        · have hR : R = false := by rw [← hok1]; simp [okOne, g2]
          subst hR
          have g2' : Hid (¬ (0 ≤ p.x ∧ p.x ≤ wd - 1 ∧ 0 ≤ p.y ∧ p.y ≤ hi - 1)) := g2
          clear hok1 g1 g2
          go_wp2
          refine wp_region_class (fun w' => Below wr.heap.size wr w') (by kernel_rfl) (by kernel_rfl) (Below.drew (Below.refl _ _)) ?_
          repeat (first
            | go_big_quiet_skip
            | (go_big_quiet_want; go_big_quiet_op; go_big_quiet_on)
            | (refine wpQuiet_step (fun K hK => ?_)
               go_simp
               refine hK _ ?_
               clear hK K)
            | (refine wpQuiet_step (fun K hK => ?_)
               go_simp
               apply Exists.intro
               refine ⟨fun w1 hw1 => ?_, hK _ ?_⟩
               · first
                 | exact rfl
                 | (go_at_call 74
                    exact (l01Piece_any p _ _ _ hp8 (Hpa.out.below hw1 hbw) true G1.out).mono fun e w2 h => ⟨h.1, kTrans hw1 h.2⟩)
                 | (go_at_call 75
                    exact (l01In_any _ _ _ _ _ hp8.1 hp8.2.1 (by omega) (by omega) false (by have := g2'.out; simpa using this)).mono fun e w2 h => ⟨h.1, kTrans hw1 h.2⟩)
                 | (have c0 := (hw1.cell (p := ⟨b, o + k * 5, none⟩) hbw).trans a0
                    have c1 := (hw1.cell (p := ⟨b, o + k * 5 + 1, none⟩) hbw).trans a1
                    have e0 := (hw1.cell (p := ⟨bb, bo, none⟩) hbbw).trans q0
                    have e1 := (hw1.cell (p := ⟨bb, bo + 1, none⟩) hbbw).trans q1
                    go_simp
                    exact rfl)
               clear hK K))
          refine wpQuiet_nil ?_
          intro w2 hw2
          clear w1e w2e
          go_wp2
          go_ret
          exact ⟨rfl, kTrans hbr hw2⟩
    · have hR : R = true := by rw [← hf.out, List.drop_of_length_le (by rw [Hn.out]; omega)]; rfl
      subst hR
      clear hf Hok hp h8
      go_wp2
      go_ret
      exact ⟨rfl, hbr⟩

set_option maxHeartbeats 2000000 in
theorem l01Ok_any (bb bo b o n cap : Nat) (wd hi : Int) (l : List Pc) (w : World) (hn : l.length = n) (hbd : BdAt w bb bo wd hi (.slice (some ⟨b, o, none⟩) n cap)) (hp : PcsAt w b o l) (hb : b < w.heap.size) (hc : n ≤ cap) (h8 : All8 l)
    (hw8 : i8 wd) (hh8 : i8 hi) (hmax : n ≤ 1048576) (R : Bool) (hR : R = boardOk wd hi l) :
    Calls Try.prog 66 #[.pointer (some ⟨bb, bo, none⟩)] w fun e w' => e = .returned (.bool R) ∧ Below w.heap.size w w' := by
  by_cases h1 : 1 ≤ wd ∧ wd ≤ 24
  · by_cases h2 : 1 ≤ hi ∧ hi ≤ 24
    · by_cases h3 : n ≤ 200
      · exact l01Ok_in bb bo b o n cap wd hi l w hn hbd hp hb hc h8 h1 h2 h3 R (by rw [hR]; unfold boardOk; rw [hn]; simp [h1, h2, h3])
      · obtain rfl : R = false := by rw [hR]; unfold boardOk; rw [hn]; simp; intro _ _ _ _ h; omega
        obtain ⟨q0, q1, q2⟩ := hbd
        have h200 : decide (200 < (n : Int)) = true := by simp; omega
        clear hR hp h8 hn h3
        unfold i8 at hw8 hh8
        go_enter Try.func66, Try.ntmps66
        go_wp2_with (go_at_call 84; refine (l00In_yes _ _ _ _ (by omega) (by omega)).mono ?_; rintro e w' ⟨rfl, rfl⟩)
        go_ret
        exact ⟨rfl, Below.refl _ _⟩
    · obtain rfl : R = false := by rw [hR]; unfold boardOk; simp; intro _ _ _ _; omega
      obtain ⟨q0, q1, q2⟩ := hbd
      have h2' : hi < 1 ∨ 24 < hi := by omega
      clear hR hp h8 hn h2
      unfold i8 at hw8 hh8
      go_enter Try.func66, Try.ntmps66
      go_wp2_with (first
        | (go_at_call 84; refine (l00In_yes _ _ _ _ ?_ ?_).mono ?_; (· omega); (· omega); rintro e w' ⟨rfl, rfl⟩)
        | (go_at_call 84; refine (l00In_no _ _ _ _ (by omega)).mono ?_; rintro e w' ⟨rfl, rfl⟩))
      go_ret
      exact ⟨rfl, Below.refl _ _⟩
  · obtain rfl : R = false := by rw [hR]; unfold boardOk; simp; intro _ _; omega
    obtain ⟨q0, q1, q2⟩ := hbd
    have h1' : wd < 1 ∨ 24 < wd := by omega
    clear hR hp h8 hn h1
    unfold i8 at hw8 hh8
    go_enter Try.func66, Try.ntmps66
    go_wp2_with (go_at_call 84; refine (l00In_no _ _ _ _ (by omega)).mono ?_; rintro e w' ⟨rfl, rfl⟩)
    go_ret
    exact ⟨rfl, Below.refl _ _⟩
end Go.Proofs.Ythancdlkkfegnaa
