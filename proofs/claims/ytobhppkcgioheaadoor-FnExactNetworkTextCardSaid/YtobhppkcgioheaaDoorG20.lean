/- Several texts in one: Nv1, Nv2, Nc. -/
import Derived.Test.YtobhppkcgioheaaDoorG19
import Derived.Laws.StructEq
/- Networks: which are valid; both sides. -/
namespace Go.Proofs.YtobhppkcgioheaaDoor
open Go.ChangeShapes Go.WideShapes Go.ChangeAt Go.RowKit Go.Joins Go.Deep
set_option linter.unusedVariables false
set_option linter.unusedSimpArgs false

theorem n16_of {n : Int} (h : (Lit.int .i16 n).wf = true) : -32768 ≤ n ∧ n ≤ 32767 := bounds_i16 h
theorem Nd_eq (p q : Nd) (w : World) : (Op.equalIn 10000 119 (.agg #[.int .i8 p.kind, .int .i16 p.a, .int .i16 p.b]) (.agg #[.int .i8 q.kind, .int .i16 q.a, .int .i16 q.b])).run Tryd.prog w = .ok (decide (p = q)) w := by
  obtain ⟨a, b, c⟩ := p
  obtain ⟨a', b', c'⟩ := q
  have hS : Tryd.prog.underlying 119 = some (.struct (Tryd.prog.fieldsOf 119)) := by kernel_rfl
  have hp : Tryd.prog.stoodInHeld 119 = false := by kernel_rfl
  rw [show (10000 : Nat) = 9999 + 1 from rfl, run_equalIn_agg w 9999 119 _ _ hS hp]
  simp only [Program.fieldsOf, Tryd.underlying119]
  go_simp
  by_cases h1 : a = a' <;> by_cases h2 : b = b' <;> by_cases h3 : c = c' <;> simp [h1, h2, h3]
/-- a node that may stand behind 'k' others -/
def nodeOk (ni : Int) (k : Nat) (x : Nd) : Bool :=
  if x.kind = 0 then decide ((0 ≤ x.a ∧ x.a < ni) ∧ x.b = 0)
  else if x.kind = 1 then decide (x.a = 0 ∧ x.b = 0)
  else if x.kind = 2 ∨ x.kind = 3 then decide ((0 ≤ x.a ∧ x.a < k) ∧ (0 ≤ x.b ∧ x.b < k))
  else false
def nodesOk (ni : Int) : List Nd → Nat → Bool
  | [], _ => true
  | x :: l, k => nodeOk ni k x && nodesOk ni l (k + 1)
def outsOkN (n : Nat) : List Int → Bool
  | [] => true
  | x :: p => decide (0 ≤ x ∧ x < n) && outsOkN n p
def netOk (ni : Int) (l : List Nd) (p : List Int) : Bool :=
  decide (1 ≤ ni ∧ ni ≤ 6) && decide (1 ≤ l.length ∧ l.length ≤ 80) && decide (1 ≤ p.length ∧ p.length ≤ 8) && nodesOk ni l 0 && outsOkN l.length p

theorem isInputs_any (n : Int) (w : World) (b : Bool) (hb : b = decide (1 ≤ n ∧ n ≤ 6)) :
    Calls Tryd.prog 123 #[.int .i64 n] w fun e w' => e = .returned (.bool b) ∧ w = w' := by
  by_cases h1 : 1 ≤ n
  · by_cases h2 : n ≤ 6
    · obtain rfl : b = true := by rw [hb]; simp; omega
      clear hb
      go_enter Tryd.func123, Tryd.ntmps123
      go_wp2
      go_ret
      exact ⟨rfl, rfl⟩
    · obtain rfl : b = false := by rw [hb]; simp; omega
      have h2' : decide (n ≤ 6) = false := by simp; omega
      clear hb h2
      go_enter Tryd.func123, Tryd.ntmps123
      go_wp2
      go_ret
      exact ⟨rfl, rfl⟩
  · obtain rfl : b = false := by rw [hb]; simp; omega
    have h1' : decide (1 ≤ n) = false := by simp; omega
    clear hb h1
    go_enter Tryd.func123, Tryd.ntmps123
    go_wp2
    go_ret
    exact ⟨rfl, rfl⟩
theorem nCount_any (n m : Int) (w : World) (b : Bool) (hb : b = decide (1 ≤ n ∧ n ≤ m)) :
    Calls Tryd.prog 124 #[.int .i64 n, .int .i64 m] w fun e w' => e = .returned (.bool b) ∧ w = w' := by
  by_cases h1 : 1 ≤ n
  · by_cases h2 : n ≤ m
    · obtain rfl : b = true := by rw [hb]; simp; omega
      clear hb
      go_enter Tryd.func124, Tryd.ntmps124
      go_wp2
      go_ret
      exact ⟨rfl, rfl⟩
    · obtain rfl : b = false := by rw [hb]; simp; omega
      have h2' : decide (n ≤ m) = false := by simp; omega
      clear hb h2
      go_enter Tryd.func124, Tryd.ntmps124
      go_wp2
      go_ret
      exact ⟨rfl, rfl⟩
  · obtain rfl : b = false := by rw [hb]; simp; omega
    have h1' : decide (1 ≤ n) = false := by simp; omega
    clear hb h1
    go_enter Tryd.func124, Tryd.ntmps124
    go_wp2
    go_ret
    exact ⟨rfl, rfl⟩
theorem isBefore_any (x n : Int) (w : World) (bx : -32768 ≤ x ∧ x ≤ 32767) (b : Bool) (hb : b = decide (0 ≤ x ∧ x < n)) :
    Calls Tryd.prog 126 #[.int .i16 x, .int .i64 n] w fun e w' => e = .returned (.bool b) ∧ w = w' := by
  have hx : IntKind.i64.wrap x = x := IntWalk.i64_in _ (by omega)
  by_cases h1 : 0 ≤ x
  · by_cases h2 : x < n
    · obtain rfl : b = true := by rw [hb]; simp; omega
      clear hb
      go_enter Tryd.func126, Tryd.ntmps126
      go_wp2
      go_ret
      exact ⟨rfl, rfl⟩
    · obtain rfl : b = false := by rw [hb]; simp; omega
      have h2' : decide (x < n) = false := by simp; omega
      clear hb
      go_enter Tryd.func126, Tryd.ntmps126
      go_wp2
      go_ret
      exact ⟨rfl, rfl⟩
  · obtain rfl : b = false := by rw [hb]; simp; omega
    have h1' : decide (0 ≤ x) = false := by simp; omega
    clear hb h1
    go_enter Tryd.func126, Tryd.ntmps126
    go_wp2
    go_ret
    exact ⟨rfl, rfl⟩

set_option maxRecDepth 100000 in
set_option maxHeartbeats 4000000 in
theorem takesNode_any (ni : Int) (a0 a1 : Option Addr) (n0 n1 d0 d1 : Nat) (x : Nd) (k : Nat) (w : World) (bw : i8 ni) (hx : x.wf) (R : Bool) (hR : R = nodeOk ni k x) :
    Calls Tryd.prog 125 #[.agg #[.int .i8 ni, .slice a0 n0 d0, .slice a1 n1 d1], .agg #[.int .i8 x.kind, .int .i16 x.a, .int .i16 x.b], .int .i64 k] w fun e w' => e = .returned (.bool R) ∧ Below w.heap.size w w' := by
  have hni : IntKind.i64.wrap ni = ni := IntWalk.i64_in _ (by have := bw.1; have := bw.2; omega)
  have b1 := n16_of hx.2.1
  have b2 := n16_of hx.2.2
  have he := Nd_eq x ⟨1, 0, 0⟩
  have hgm : Tryd.prog.eqGuardType Tryd.prog.depth 119 = false := by kernel_rfl
  by_cases k0 : x.kind = 0
  · have e0 : x.kind = 0 := k0
    by_cases hA : 0 ≤ x.a ∧ x.a < ni
    · have hR2 : R = decide (x.b = 0) := by rw [hR]; unfold nodeOk; rw [if_pos k0]; by_cases hb : x.b = 0 <;> simp [hb, hA]
      clear hR he
      by_cases hb : x.b = 0
      · obtain rfl : R = true := by rw [hR2]; simpa using hb
        clear hR2
        go_enter Tryd.func125, Tryd.ntmps125
        go_wp2_with fail
        refine (isBefore_any x.a ni _ b1 true (by symm; simpa using hA)).mono ?_
        rintro e w1 ⟨rfl, rfl⟩
        go_wp2
        go_ret
        exact ⟨rfl, by repeat (first | with_reducible exact Below.refl _ _ | (with_reducible refine kSet ?_ ?hB _; case hB => (simp; try omega)) | with_reducible refine kAlloc ?_ _ | with_reducible refine Below.drew ?_ | with_reducible refine kDrewN ?_ _ | with_reducible refine kTrans ?_ (by assumption))⟩
      · obtain rfl : R = false := by rw [hR2]; simpa using hb
        have hb2 : (x.b == 0) = false := by simpa using hb
        clear hR2
        go_enter Tryd.func125, Tryd.ntmps125
        go_wp2_with fail
        refine (isBefore_any x.a ni _ b1 true (by symm; simpa using hA)).mono ?_
        rintro e w1 ⟨rfl, rfl⟩
        go_wp2
        go_ret
        exact ⟨rfl, by repeat (first | with_reducible exact Below.refl _ _ | (with_reducible refine kSet ?_ ?hB _; case hB => (simp; try omega)) | with_reducible refine kAlloc ?_ _ | with_reducible refine Below.drew ?_ | with_reducible refine kDrewN ?_ _ | with_reducible refine kTrans ?_ (by assumption))⟩
    · obtain rfl : R = false := by rw [hR]; unfold nodeOk; rw [if_pos k0]; simp; intro h1 h2; exact absurd ⟨h1, h2⟩ hA
      clear hR he
      go_enter Tryd.func125, Tryd.ntmps125
      go_wp2_with fail
      refine (isBefore_any x.a ni _ b1 false (by symm; simpa using hA)).mono ?_
      rintro e w1 ⟨rfl, rfl⟩
      go_wp2
      go_ret
      exact ⟨rfl, by repeat (first | with_reducible exact Below.refl _ _ | (with_reducible refine kSet ?_ ?hB _; case hB => (simp; try omega)) | with_reducible refine kAlloc ?_ _ | with_reducible refine Below.drew ?_ | with_reducible refine kDrewN ?_ _ | with_reducible refine kTrans ?_ (by assumption))⟩
  · by_cases k1 : x.kind = 1
    · have hR2 : R = decide (x = ⟨1, 0, 0⟩) := by
        rw [hR]; unfold nodeOk; rw [if_neg k0, if_pos k1]
        obtain ⟨kx, xa, xb⟩ := x
        simp only at k1
        subst k1
        simp
      cases hv : R with
      | true =>
        rw [hv] at hR2
        rw [← hR2] at he
        simp only [k1] at he
        clear hR hR2 k0
        go_enter Tryd.func125, Tryd.ntmps125
        go_wp2
        go_ret
        exact ⟨rfl, by repeat (first | with_reducible exact Below.refl _ _ | (with_reducible refine kSet ?_ ?hB _; case hB => (simp; try omega)) | with_reducible refine kAlloc ?_ _ | with_reducible refine Below.drew ?_ | with_reducible refine kDrewN ?_ _ | with_reducible refine kTrans ?_ (by assumption))⟩
      | false =>
        rw [hv] at hR2
        rw [← hR2] at he
        simp only [k1] at he
        clear hR hR2 k0
        go_enter Tryd.func125, Tryd.ntmps125
        go_wp2
        go_ret
        exact ⟨rfl, by repeat (first | with_reducible exact Below.refl _ _ | (with_reducible refine kSet ?_ ?hB _; case hB => (simp; try omega)) | with_reducible refine kAlloc ?_ _ | with_reducible refine Below.drew ?_ | with_reducible refine kDrewN ?_ _ | with_reducible refine kTrans ?_ (by assumption))⟩
    · by_cases k2 : x.kind = 2 ∨ x.kind = 3
      · have hR2 : R = decide ((0 ≤ x.a ∧ x.a < k) ∧ (0 ≤ x.b ∧ x.b < k)) := by rw [hR]; unfold nodeOk; rw [if_neg k0, if_neg k1, if_pos k2]
        clear hR he k0 k1
        by_cases hA : 0 ≤ x.a ∧ x.a < (k : Int)
        · by_cases hB : 0 ≤ x.b ∧ x.b < (k : Int)
          · obtain rfl : R = true := by rw [hR2]; simpa using ⟨hA, hB⟩
            clear hR2
            rcases k2 with k2 | k2
            · go_enter Tryd.func125, Tryd.ntmps125
              go_wp2_with fail
              refine (isBefore_any x.a k _ b1 true (by symm; simpa using hA)).mono ?_
              rintro e w1 ⟨rfl, rfl⟩
              go_wp2_with fail
              refine (isBefore_any x.b k _ b2 true (by symm; simpa using hB)).mono ?_
              rintro e w1 ⟨rfl, rfl⟩
              go_wp2
              go_ret
              exact ⟨rfl, by repeat (first | with_reducible exact Below.refl _ _ | (with_reducible refine kSet ?_ ?hB _; case hB => (simp; try omega)) | with_reducible refine kAlloc ?_ _ | with_reducible refine Below.drew ?_ | with_reducible refine kDrewN ?_ _ | with_reducible refine kTrans ?_ (by assumption))⟩
            · go_enter Tryd.func125, Tryd.ntmps125
              go_wp2_with fail
              refine (isBefore_any x.a k _ b1 true (by symm; simpa using hA)).mono ?_
              rintro e w1 ⟨rfl, rfl⟩
              go_wp2_with fail
              refine (isBefore_any x.b k _ b2 true (by symm; simpa using hB)).mono ?_
              rintro e w1 ⟨rfl, rfl⟩
              go_wp2
              go_ret
              exact ⟨rfl, by repeat (first | with_reducible exact Below.refl _ _ | (with_reducible refine kSet ?_ ?hB _; case hB => (simp; try omega)) | with_reducible refine kAlloc ?_ _ | with_reducible refine Below.drew ?_ | with_reducible refine kDrewN ?_ _ | with_reducible refine kTrans ?_ (by assumption))⟩
          · obtain rfl : R = false := by rw [hR2]; simp; intro _ _ h1 ; have := hB; omega
            clear hR2
            rcases k2 with k2 | k2
            · go_enter Tryd.func125, Tryd.ntmps125
              go_wp2_with fail
              refine (isBefore_any x.a k _ b1 true (by symm; simpa using hA)).mono ?_
              rintro e w1 ⟨rfl, rfl⟩
              go_wp2_with fail
              refine (isBefore_any x.b k _ b2 false (by symm; simpa using hB)).mono ?_
              rintro e w1 ⟨rfl, rfl⟩
              go_wp2
              go_ret
              exact ⟨rfl, by repeat (first | with_reducible exact Below.refl _ _ | (with_reducible refine kSet ?_ ?hB _; case hB => (simp; try omega)) | with_reducible refine kAlloc ?_ _ | with_reducible refine Below.drew ?_ | with_reducible refine kDrewN ?_ _ | with_reducible refine kTrans ?_ (by assumption))⟩
            · go_enter Tryd.func125, Tryd.ntmps125
              go_wp2_with fail
              refine (isBefore_any x.a k _ b1 true (by symm; simpa using hA)).mono ?_
              rintro e w1 ⟨rfl, rfl⟩
              go_wp2_with fail
              refine (isBefore_any x.b k _ b2 false (by symm; simpa using hB)).mono ?_
              rintro e w1 ⟨rfl, rfl⟩
              go_wp2
              go_ret
              exact ⟨rfl, by repeat (first | with_reducible exact Below.refl _ _ | (with_reducible refine kSet ?_ ?hB _; case hB => (simp; try omega)) | with_reducible refine kAlloc ?_ _ | with_reducible refine Below.drew ?_ | with_reducible refine kDrewN ?_ _ | with_reducible refine kTrans ?_ (by assumption))⟩
        · obtain rfl : R = false := by rw [hR2]; simp; intro h1 h2 ; have := hA; omega
          clear hR2
          rcases k2 with k2 | k2
          · go_enter Tryd.func125, Tryd.ntmps125
            go_wp2_with fail
            refine (isBefore_any x.a k _ b1 false (by symm; simpa using hA)).mono ?_
            rintro e w1 ⟨rfl, rfl⟩
            go_wp2
            go_ret
            exact ⟨rfl, by repeat (first | with_reducible exact Below.refl _ _ | (with_reducible refine kSet ?_ ?hB _; case hB => (simp; try omega)) | with_reducible refine kAlloc ?_ _ | with_reducible refine Below.drew ?_ | with_reducible refine kDrewN ?_ _ | with_reducible refine kTrans ?_ (by assumption))⟩
          · go_enter Tryd.func125, Tryd.ntmps125
            go_wp2_with fail
            refine (isBefore_any x.a k _ b1 false (by symm; simpa using hA)).mono ?_
            rintro e w1 ⟨rfl, rfl⟩
            go_wp2
            go_ret
            exact ⟨rfl, by repeat (first | with_reducible exact Below.refl _ _ | (with_reducible refine kSet ?_ ?hB _; case hB => (simp; try omega)) | with_reducible refine kAlloc ?_ _ | with_reducible refine Below.drew ?_ | with_reducible refine kDrewN ?_ _ | with_reducible refine kTrans ?_ (by assumption))⟩
      · obtain rfl : R = false := by rw [hR]; unfold nodeOk; rw [if_neg k0, if_neg k1, if_neg k2]
        have d0 : decide (x.kind = 0) = false := by simpa using k0
        have d1 : decide (x.kind = 1) = false := by simpa using k1
        have d2 : ¬ x.kind = 2 := fun h => k2 (.inl h)
        have d3 : ¬ x.kind = 3 := fun h => k2 (.inr h)
        clear hR he k2
        go_enter Tryd.func125, Tryd.ntmps125
        go_wp2
        go_ret
        exact ⟨rfl, by repeat (first | with_reducible exact Below.refl _ _ | (with_reducible refine kSet ?_ ?hB _; case hB => (simp; try omega)) | with_reducible refine kAlloc ?_ _ | with_reducible refine Below.drew ?_ | with_reducible refine kDrewN ?_ _ | with_reducible refine kTrans ?_ (by assumption))⟩
set_option maxRecDepth 100000 in
set_option maxHeartbeats 8000000 in
theorem implValidNetwork_any (b k : Nat) (ni : Int) (l : List Nd) (p : List Int) (w : World) (h : NK w b k l p) (h8 : NdsWf l) (h9 : ShsWf p) (bw : i8 ni) (m0 : l.length ≤ 1048576) (m1 : p.length ≤ 1048576) (R : Bool) (hR : R = netOk ni l p) :
    Calls Tryd.prog 86 #[.agg #[.int .i8 ni, .slice (some ⟨b, 0, none⟩) l.length l.length, .slice (some ⟨k, 0, none⟩) p.length p.length]] w fun e w' => e = .returned (.bool R) ∧ Below w.heap.size w w' := by
  have hni : IntKind.i64.wrap ni = ni := IntWalk.i64_in _ (by have := bw.1; have := bw.2; omega)
  have ka : Below w.heap.size w (w.alloc (.cells #[.int .i8 ni, .slice (some ⟨b, 0, none⟩) l.length l.length, .slice (some ⟨k, 0, none⟩) p.length p.length] 56)) := by repeat (first | with_reducible exact Below.refl _ _ | (with_reducible refine kSet ?_ ?hB _; case hB => (simp; try omega)) | with_reducible refine kAlloc ?_ _ | with_reducible refine Below.drew ?_ | with_reducible refine kDrewN ?_ _ | with_reducible refine kTrans ?_ (by assumption))
  by_cases c0 : 1 ≤ ni ∧ ni ≤ 6
  · by_cases c1 : 1 ≤ (l.length : Int) ∧ (l.length : Int) ≤ 80
    · by_cases c2 : 1 ≤ (p.length : Int) ∧ (p.length : Int) ≤ 8
      · have hR2 : Hid ((nodesOk ni (l.drop 0) 0 && outsOkN l.length (p.drop 0)) = R) := Lib.hid (by
          rw [hR]; unfold netOk; rw [decide_eq_true c0, decide_eq_true (show 1 ≤ l.length ∧ l.length ≤ 80 by omega), decide_eq_true (show 1 ≤ p.length ∧ p.length ≤ 8 by omega)]; rfl)
        have BX := NwAt.box w ni (.slice (some ⟨b, 0, none⟩) l.length l.length) (.slice (some ⟨k, 0, none⟩) p.length p.length) 56
        obtain ⟨W0, hW0⟩ : ∃ W0, w.alloc (.cells #[.int .i8 ni, .slice (some ⟨b, 0, none⟩) l.length l.length, .slice (some ⟨k, 0, none⟩) p.length p.length] 56) = W0 := ⟨_, rfl⟩
        rw [hW0] at BX ka
        have lb := BX.lt
        have HX := Lib.hid (fun W (hW : Below W0.heap.size W0 W) => BX.below hW lb)
        have HK := Lib.hid (h.below ka)
        have H8 := Lib.hid h8
        have H9 := Lib.hid h9
        obtain ⟨n, hn⟩ : ∃ n, l.length = n := ⟨_, rfl⟩
        obtain ⟨q, hq⟩ : ∃ q, p.length = q := ⟨_, rfl⟩
        rw [hn] at c1 hR2 HX m0 ⊢
        rw [hq] at c2 HX m1 ⊢
        have Hn := Lib.hid hn
        have Hq := Lib.hid hq
        rw [hn, hq] at hW0 BX
        have HW0 := Lib.hid hW0
        obtain ⟨x0, x1, x2⟩ := BX
        clear hR h h8 h9 hn hq hW0
        go_enter Tryd.func86, Tryd.ntmps86
        go_upto_region 1 with fail
        try rw [HW0.out]
        go_wp2_with fail
        refine (isInputs_any ni _ true (by symm; simpa using c0)).mono ?_
        rintro e w1 ⟨rfl, rfl⟩
        go_wp2_with fail
        refine (nCount_any (n : Int) 80 _ true (by symm; simpa using c1)).mono ?_
        rintro e w1 ⟨rfl, rfl⟩
        go_wp2_with fail
        refine (nCount_any (q : Int) 8 _ true (by symm; simpa using c2)).mono ?_
        rintro e w1 ⟨rfl, rfl⟩
        go_wp2
        clear x0 x1 x2
        go_loopw [3, 4, 29] (fun _ _ i wr => ∃ j : Nat, j ≤ n ∧ i = .int .i64 j ∧ Hid ((nodesOk ni (l.drop j) j && outsOkN n (p.drop 0)) = R) ∧ Below W0.heap.size W0 wr) (fun _ _ i _ => n - (intOf i).toNat)
        case atStart => exact ⟨0, by omega, rfl, hR2, Below.refl _ _⟩
        case round =>
          clear hR2
          obtain ⟨j, hj, rfl, hf, hbr⟩ := hrel
          obtain ⟨x0, x1, x2⟩ := HX.out wr hbr
          have zr := Nat.lt_of_lt_of_le lb hbr.size
          by_cases hlt : j < n
          · have hlk : j < l.length := by rw [Hn.out]; exact hlt
            have hpa := (HK.out.below hbr).p0 j hlk
            have hd : l.drop j = l[j] :: l.drop (j + 1) := List.drop_eq_getElem_cons hlk
            have hwf := H8.out _ (List.getElem_mem hlk)
            generalize l[j] = x at hpa hd hwf
            obtain ⟨a0, a1, a2⟩ := hpa
            simp only [Nat.zero_add] at a0 a1 a2
            have hq := hf.out
            rw [hd] at hq
            have kin : Below wr.heap.size wr (wr.alloc (.cells #[.int .i8 x.kind, .int .i16 x.a, .int .i16 x.b] 119)) := kAlloc (Below.refl _ _) _
            cases hv : nodeOk ni j x with
            | true =>
              have hR3 : Hid ((nodesOk ni (l.drop (j + 1)) (j + 1) && outsOkN n (p.drop 0)) = R) := Lib.hid (by rw [← hq]; simp [nodesOk, hv])
              have HV := Lib.hid hv
              have HWF := Lib.hid hwf
              clear hq hd hf hv hwf
              go_wp2_with fail
              refine (takesNode_any ni _ _ _ _ _ _ x j _ bw HWF.out true HV.out.symm).mono ?_
              rintro e w2 ⟨rfl, hb2⟩
              have T2 := kTrans (kTrans hbr kin) hb2
              clear x0 x1 x2 a0 a1 a2 hb2 kin
              go_wp2
              exact ⟨⟨j + 1, by omega, by go_num, hR3, T2⟩, by simp [intOf]; omega⟩
            | false =>
              obtain rfl : R = false := by rw [← hq]; simp [nodesOk, hv]
              have HV := Lib.hid hv
              have HWF := Lib.hid hwf
              clear hq hd hf hv hwf
              go_wp2_with fail
              refine (takesNode_any ni _ _ _ _ _ _ x j _ bw HWF.out false HV.out.symm).mono ?_
              rintro e w2 ⟨rfl, hb2⟩
              have T2 := kTrans ka (kTrans (kTrans hbr kin) hb2)
              clear x0 x1 x2 a0 a1 a2 hb2 kin
              go_wp2
              go_ret
              exact ⟨rfl, T2⟩
          · obtain rfl : j = n := by omega
            have hR3 : Hid (outsOkN j (p.drop 0) = R) := Lib.hid (by rw [← hf.out, List.drop_of_length_le (l := l) (by rw [Hn.out]; omega)]; simp [nodesOk])
            clear hf hlt
            obtain ⟨wo, rfl⟩ : ∃ wo : World, wo = wr := ⟨_, rfl⟩
            go_wp2
            go_loopw [6, 43] (fun _ i wr => ∃ m : Nat, m ≤ q ∧ i = .int .i64 m ∧ Hid (outsOkN j (p.drop m) = R) ∧ Below W0.heap.size W0 wr) (fun _ i _ => q - (intOf i).toNat)
            case atStart => exact ⟨0, by omega, rfl, hR3, hbr⟩
            case round =>
              clear hR3 x0 x1 x2
              obtain ⟨m, hm, rfl, hf, hbr2⟩ := hrel
              obtain ⟨x0, x1, x2⟩ := HX.out wr hbr2
              have zr2 := Nat.lt_of_lt_of_le lb hbr2.size
              by_cases hlt : m < q
              · have hlk : m < p.length := by rw [Hq.out]; exact hlt
                have hpa := (HK.out.below hbr2).p1 m hlk
                have hd : p.drop m = p[m] :: p.drop (m + 1) := List.drop_eq_getElem_cons hlk
                have hwf := n16_of (H9.out _ (List.getElem_mem hlk))
                generalize p[m] = x at hpa hd hwf
                simp only [Nat.zero_add] at hpa
                have hq2 := hf.out
                rw [hd] at hq2
                by_cases hA : 0 ≤ x ∧ x < (j : Int)
                · have hR4 : Hid (outsOkN j (p.drop (m + 1)) = R) := Lib.hid (by rw [← hq2]; simp [outsOkN, hA])
                  clear hq2 hd hf
                  go_wp2_with fail
                  refine (isBefore_any x j _ hwf true (by symm; simpa using hA)).mono ?_
                  rintro e w2 ⟨rfl, rfl⟩
                  go_wp2
                  exact ⟨⟨m + 1, by omega, by go_num, hR4, hbr2⟩, by simp [intOf]; omega⟩
                · obtain rfl : R = false := by rw [← hq2]; simp [outsOkN]; intro h1 h2; exact absurd ⟨h1, h2⟩ hA
                  clear hq2 hd hf
                  go_wp2_with fail
                  refine (isBefore_any x j _ hwf false (by symm; simpa using hA)).mono ?_
                  rintro e w2 ⟨rfl, rfl⟩
                  have T2 := kTrans ka hbr2
                  go_wp2
                  go_ret
                  exact ⟨rfl, T2⟩
              · obtain rfl : R = true := by rw [← hf.out, List.drop_of_length_le (by rw [Hq.out]; omega)]; rfl
                have T2 := kTrans ka hbr2
                clear hf
                go_wp2
                go_ret
                exact ⟨rfl, T2⟩
      · obtain rfl : R = false := by rw [hR]; unfold netOk; rw [decide_eq_false (show ¬ (1 ≤ p.length ∧ p.length ≤ 8) by omega)]; simp
        clear hR h h8 h9
        go_enter Tryd.func86, Tryd.ntmps86
        go_wp2_with fail
        refine (isInputs_any ni _ true (by symm; simpa using c0)).mono ?_
        rintro e w1 ⟨rfl, rfl⟩
        go_wp2_with fail
        refine (nCount_any (l.length : Int) 80 _ true (by symm; simpa using c1)).mono ?_
        rintro e w1 ⟨rfl, rfl⟩
        go_wp2_with fail
        refine (nCount_any (p.length : Int) 8 _ false (by symm; simpa using c2)).mono ?_
        rintro e w1 ⟨rfl, rfl⟩
        go_wp2
        go_ret
        exact ⟨rfl, ka⟩
    · obtain rfl : R = false := by rw [hR]; unfold netOk; rw [decide_eq_false (show ¬ (1 ≤ l.length ∧ l.length ≤ 80) by omega)]; simp
      clear hR h h8 h9
      go_enter Tryd.func86, Tryd.ntmps86
      go_wp2_with fail
      refine (isInputs_any ni _ true (by symm; simpa using c0)).mono ?_
      rintro e w1 ⟨rfl, rfl⟩
      go_wp2_with fail
      refine (nCount_any (l.length : Int) 80 _ false (by symm; simpa using c1)).mono ?_
      rintro e w1 ⟨rfl, rfl⟩
      go_wp2
      go_ret
      exact ⟨rfl, ka⟩
  · obtain rfl : R = false := by rw [hR]; unfold netOk; rw [decide_eq_false c0]; simp
    clear hR h h8 h9
    go_enter Tryd.func86, Tryd.ntmps86
    go_wp2_with fail
    refine (isInputs_any ni _ false (by symm; simpa using c0)).mono ?_
    rintro e w1 ⟨rfl, rfl⟩
    go_wp2
    go_ret
    exact ⟨rfl, ka⟩
end Go.Proofs.YtobhppkcgioheaaDoor

/- Networks: which are valid; the model. -/
namespace Go.Proofs.YtobhppkcgioheaaDoor
open Go.ChangeShapes Go.WideShapes Go.ChangeAt Go.RowKit Go.Joins Go.Deep
set_option linter.unusedVariables false
set_option linter.unusedSimpArgs false

set_option maxRecDepth 100000 in
set_option maxHeartbeats 4000000 in
theorem l04Node_any (bb b n : Nat) (ni : Int) (u : Value) (x : Nd) (i : Nat) (w : World) (h0 : NwAt w bb ni (.slice (some ⟨b, 0, none⟩) n n) u) (ha : NdAt w b (i * 3) x) (zb : b < w.heap.size) (hi : i < n) (hm : n ≤ 1048576) (bw : i8 ni) (hx : x.wf) (R : Bool) (hR : R = nodeOk ni i x) :
    Calls Tryd.prog 118 #[.pointer (some ⟨bb, 0, none⟩), .int .i64 i] w fun e w' => e = .returned (.bool R) ∧ Below w.heap.size w w' := by
  have hni : IntKind.i16.wrap ni = ni := IntWalk.i16_in _ (by have := bw.1; have := bw.2; omega)
  have b1 := n16_of hx.2.1
  have b2 := n16_of hx.2.2
  have ha1 : IntKind.i64.wrap x.a = x.a := IntWalk.i64_in _ (by omega)
  have hb1 : IntKind.i64.wrap x.b = x.b := IntWalk.i64_in _ (by omega)
  obtain ⟨c0, c1, c2⟩ := h0
  obtain ⟨a0, a1, a2⟩ := ha
  have lb := World.block_lt_of_cell? w _ c0
  by_cases k0 : x.kind = 0
  · by_cases g1 : 0 ≤ x.a
    · have g1' : decide (0 ≤ x.a) = true := by simpa using g1
      by_cases g2 : x.a < ni
      · have g2' : decide (x.a < ni) = true := by simpa using g2
        have hR2 : R = decide (x.b = 0) := by rw [hR]; unfold nodeOk; rw [if_pos k0]; by_cases hb : x.b = 0 <;> simp [hb, g1, g2]
        clear hR
        cases hv : R with
        | true =>
          rw [hv] at hR2
          have g3 : x.b = 0 := by simpa using hR2.symm
          clear hR2 hv
          go_enter Tryd.func118, Tryd.ntmps118
          go_wp2
          go_quiet (fail)
          go_wp2
          go_ret
          exact ⟨rfl, by repeat (first | with_reducible exact Below.refl _ _ | (with_reducible refine kSet ?_ ?hB _; case hB => (simp; try omega)) | with_reducible refine kAlloc ?_ _ | with_reducible refine Below.drew ?_ | with_reducible refine kDrewN ?_ _ | with_reducible refine kTrans ?_ (by assumption))⟩
        | false =>
          rw [hv] at hR2
          have g3 : ¬ x.b = 0 := by simpa using hR2.symm
          have g3' : (x.b == 0) = false := by simpa using g3
          clear hR2 hv
          go_enter Tryd.func118, Tryd.ntmps118
          go_wp2
          go_quiet (fail)
          go_wp2
          go_ret
          exact ⟨rfl, by repeat (first | with_reducible exact Below.refl _ _ | (with_reducible refine kSet ?_ ?hB _; case hB => (simp; try omega)) | with_reducible refine kAlloc ?_ _ | with_reducible refine Below.drew ?_ | with_reducible refine kDrewN ?_ _ | with_reducible refine kTrans ?_ (by assumption))⟩
      · have g2' : decide (x.a < ni) = false := by simpa using g2
        obtain rfl : R = false := by rw [hR]; unfold nodeOk; rw [if_pos k0]; simp; intro h1 h2; exact absurd h2 g2
        clear hR
        go_enter Tryd.func118, Tryd.ntmps118
        go_wp2
        go_quiet (fail)
        go_wp2
        go_ret
        exact ⟨rfl, by repeat (first | with_reducible exact Below.refl _ _ | (with_reducible refine kSet ?_ ?hB _; case hB => (simp; try omega)) | with_reducible refine kAlloc ?_ _ | with_reducible refine Below.drew ?_ | with_reducible refine kDrewN ?_ _ | with_reducible refine kTrans ?_ (by assumption))⟩
    · have g1' : decide (0 ≤ x.a) = false := by simpa using g1
      obtain rfl : R = false := by rw [hR]; unfold nodeOk; rw [if_pos k0]; simp; intro h1 h2; exact absurd h1 g1
      clear hR
      go_enter Tryd.func118, Tryd.ntmps118
      go_wp2
      go_quiet (fail)
      go_wp2
      go_ret
      exact ⟨rfl, by repeat (first | with_reducible exact Below.refl _ _ | (with_reducible refine kSet ?_ ?hB _; case hB => (simp; try omega)) | with_reducible refine kAlloc ?_ _ | with_reducible refine Below.drew ?_ | with_reducible refine kDrewN ?_ _ | with_reducible refine kTrans ?_ (by assumption))⟩
  · by_cases k1 : x.kind = 1
    · have hR2 : R = (decide (x.a = 0) && decide (x.b = 0)) := by rw [hR]; unfold nodeOk; rw [if_neg k0, if_pos k1]; simp
      clear hR
      by_cases g1 : x.a = 0
      · cases hv : R with
        | true =>
          have g3 : x.b = 0 := by rw [hv] at hR2; simp [g1] at hR2; exact hR2
          clear hR2 hv
          go_enter Tryd.func118, Tryd.ntmps118
          go_wp2
          go_ret
          exact ⟨rfl, by repeat (first | with_reducible exact Below.refl _ _ | (with_reducible refine kSet ?_ ?hB _; case hB => (simp; try omega)) | with_reducible refine kAlloc ?_ _ | with_reducible refine Below.drew ?_ | with_reducible refine kDrewN ?_ _ | with_reducible refine kTrans ?_ (by assumption))⟩
        | false =>
          have g3 : ¬ x.b = 0 := by rw [hv] at hR2; simp [g1] at hR2; exact hR2
          have g3' : (x.b == 0) = false := by simpa using g3
          clear hR2 hv
          go_enter Tryd.func118, Tryd.ntmps118
          go_wp2
          go_ret
          exact ⟨rfl, by repeat (first | with_reducible exact Below.refl _ _ | (with_reducible refine kSet ?_ ?hB _; case hB => (simp; try omega)) | with_reducible refine kAlloc ?_ _ | with_reducible refine Below.drew ?_ | with_reducible refine kDrewN ?_ _ | with_reducible refine kTrans ?_ (by assumption))⟩
      · obtain rfl : R = false := by rw [hR2]; simp [g1]
        have g1' : (x.a == 0) = false := by simpa using g1
        clear hR2
        go_enter Tryd.func118, Tryd.ntmps118
        go_wp2
        go_ret
        exact ⟨rfl, by repeat (first | with_reducible exact Below.refl _ _ | (with_reducible refine kSet ?_ ?hB _; case hB => (simp; try omega)) | with_reducible refine kAlloc ?_ _ | with_reducible refine Below.drew ?_ | with_reducible refine kDrewN ?_ _ | with_reducible refine kTrans ?_ (by assumption))⟩
    · by_cases k2 : x.kind = 2 ∨ x.kind = 3
      · have hR2 : R = decide ((0 ≤ x.a ∧ x.a < i) ∧ (0 ≤ x.b ∧ x.b < i)) := by rw [hR]; unfold nodeOk; rw [if_neg k0, if_neg k1, if_pos k2]
        clear hR k0 k1
        by_cases g1 : 0 ≤ x.a
        · have g1' : decide (0 ≤ x.a) = true := by simpa using g1
          by_cases g2 : x.a < (i : Int)
          · have g2' : decide (x.a < (i : Int)) = true := by simpa using g2
            by_cases g3 : 0 ≤ x.b
            · have g3' : decide (0 ≤ x.b) = true := by simpa using g3
              by_cases g4 : x.b < (i : Int)
              · have g4' : decide (x.b < (i : Int)) = true := by simpa using g4
                obtain rfl : R = true := by rw [hR2]; simpa using ⟨⟨g1, g2⟩, g3, g4⟩
                clear hR2
                rcases k2 with k2 | k2
                · go_enter Tryd.func118, Tryd.ntmps118
                  go_wp2
                  go_ret
                  exact ⟨rfl, by repeat (first | with_reducible exact Below.refl _ _ | (with_reducible refine kSet ?_ ?hB _; case hB => (simp; try omega)) | with_reducible refine kAlloc ?_ _ | with_reducible refine Below.drew ?_ | with_reducible refine kDrewN ?_ _ | with_reducible refine kTrans ?_ (by assumption))⟩
                · go_enter Tryd.func118, Tryd.ntmps118
                  go_wp2
                  go_ret
                  exact ⟨rfl, by repeat (first | with_reducible exact Below.refl _ _ | (with_reducible refine kSet ?_ ?hB _; case hB => (simp; try omega)) | with_reducible refine kAlloc ?_ _ | with_reducible refine Below.drew ?_ | with_reducible refine kDrewN ?_ _ | with_reducible refine kTrans ?_ (by assumption))⟩
              · have g4' : decide (x.b < (i : Int)) = false := by simpa using g4
                obtain rfl : R = false := by rw [hR2]; simp; intro _ _ _; omega
                clear hR2
                rcases k2 with k2 | k2
                · go_enter Tryd.func118, Tryd.ntmps118
                  go_wp2
                  go_ret
                  exact ⟨rfl, by repeat (first | with_reducible exact Below.refl _ _ | (with_reducible refine kSet ?_ ?hB _; case hB => (simp; try omega)) | with_reducible refine kAlloc ?_ _ | with_reducible refine Below.drew ?_ | with_reducible refine kDrewN ?_ _ | with_reducible refine kTrans ?_ (by assumption))⟩
                · go_enter Tryd.func118, Tryd.ntmps118
                  go_wp2
                  go_ret
                  exact ⟨rfl, by repeat (first | with_reducible exact Below.refl _ _ | (with_reducible refine kSet ?_ ?hB _; case hB => (simp; try omega)) | with_reducible refine kAlloc ?_ _ | with_reducible refine Below.drew ?_ | with_reducible refine kDrewN ?_ _ | with_reducible refine kTrans ?_ (by assumption))⟩
            · have g3' : decide (0 ≤ x.b) = false := by simpa using g3
              obtain rfl : R = false := by rw [hR2]; simp; intro _ _ h; exact absurd h g3
              clear hR2
              rcases k2 with k2 | k2
              · go_enter Tryd.func118, Tryd.ntmps118
                go_wp2
                go_ret
                exact ⟨rfl, by repeat (first | with_reducible exact Below.refl _ _ | (with_reducible refine kSet ?_ ?hB _; case hB => (simp; try omega)) | with_reducible refine kAlloc ?_ _ | with_reducible refine Below.drew ?_ | with_reducible refine kDrewN ?_ _ | with_reducible refine kTrans ?_ (by assumption))⟩
              · go_enter Tryd.func118, Tryd.ntmps118
                go_wp2
                go_ret
                exact ⟨rfl, by repeat (first | with_reducible exact Below.refl _ _ | (with_reducible refine kSet ?_ ?hB _; case hB => (simp; try omega)) | with_reducible refine kAlloc ?_ _ | with_reducible refine Below.drew ?_ | with_reducible refine kDrewN ?_ _ | with_reducible refine kTrans ?_ (by assumption))⟩
          · have g2' : decide (x.a < (i : Int)) = false := by simpa using g2
            obtain rfl : R = false := by rw [hR2]; simp; intro _ h; exact absurd h g2
            clear hR2
            rcases k2 with k2 | k2
            · go_enter Tryd.func118, Tryd.ntmps118
              go_wp2
              go_ret
              exact ⟨rfl, by repeat (first | with_reducible exact Below.refl _ _ | (with_reducible refine kSet ?_ ?hB _; case hB => (simp; try omega)) | with_reducible refine kAlloc ?_ _ | with_reducible refine Below.drew ?_ | with_reducible refine kDrewN ?_ _ | with_reducible refine kTrans ?_ (by assumption))⟩
            · go_enter Tryd.func118, Tryd.ntmps118
              go_wp2
              go_ret
              exact ⟨rfl, by repeat (first | with_reducible exact Below.refl _ _ | (with_reducible refine kSet ?_ ?hB _; case hB => (simp; try omega)) | with_reducible refine kAlloc ?_ _ | with_reducible refine Below.drew ?_ | with_reducible refine kDrewN ?_ _ | with_reducible refine kTrans ?_ (by assumption))⟩
        · have g1' : decide (0 ≤ x.a) = false := by simpa using g1
          obtain rfl : R = false := by rw [hR2]; simp; intro h; exact absurd h g1
          clear hR2
          rcases k2 with k2 | k2
          · go_enter Tryd.func118, Tryd.ntmps118
            go_wp2
            go_ret
            exact ⟨rfl, by repeat (first | with_reducible exact Below.refl _ _ | (with_reducible refine kSet ?_ ?hB _; case hB => (simp; try omega)) | with_reducible refine kAlloc ?_ _ | with_reducible refine Below.drew ?_ | with_reducible refine kDrewN ?_ _ | with_reducible refine kTrans ?_ (by assumption))⟩
          · go_enter Tryd.func118, Tryd.ntmps118
            go_wp2
            go_ret
            exact ⟨rfl, by repeat (first | with_reducible exact Below.refl _ _ | (with_reducible refine kSet ?_ ?hB _; case hB => (simp; try omega)) | with_reducible refine kAlloc ?_ _ | with_reducible refine Below.drew ?_ | with_reducible refine kDrewN ?_ _ | with_reducible refine kTrans ?_ (by assumption))⟩
      · obtain rfl : R = false := by rw [hR]; unfold nodeOk; rw [if_neg k0, if_neg k1, if_neg k2]
        have d2 : ¬ x.kind = 2 := fun h => k2 (.inl h)
        have d3 : ¬ x.kind = 3 := fun h => k2 (.inr h)
        clear hR k2
        go_enter Tryd.func118, Tryd.ntmps118
        go_wp2
        go_ret
        exact ⟨rfl, by repeat (first | with_reducible exact Below.refl _ _ | (with_reducible refine kSet ?_ ?hB _; case hB => (simp; try omega)) | with_reducible refine kAlloc ?_ _ | with_reducible refine Below.drew ?_ | with_reducible refine kDrewN ?_ _ | with_reducible refine kTrans ?_ (by assumption))⟩

set_option maxRecDepth 100000 in
set_option maxHeartbeats 8000000 in
theorem l04Ok_any (bb b k : Nat) (ni : Int) (l : List Nd) (p : List Int) (w : World) (h0 : NwAt w bb ni (.slice (some ⟨b, 0, none⟩) l.length l.length) (.slice (some ⟨k, 0, none⟩) p.length p.length)) (h : NK w b k l p) (h8 : NdsWf l) (h9 : ShsWf p) (bw : i8 ni) (m0 : l.length ≤ 1048576) (m1 : p.length ≤ 1048576) (R : Bool) (hR : R = netOk ni l p) :
    Calls Tryd.prog 73 #[.pointer (some ⟨bb, 0, none⟩)] w fun e w' => e = .returned (.bool R) ∧ Below w.heap.size w w' := by
  have hni : IntKind.i64.wrap ni = ni := IntWalk.i64_in _ (by have := bw.1; have := bw.2; omega)
  have lb := h0.lt
  have HX := Lib.hid (fun W (hW : Below w.heap.size w W) => h0.below hW lb)
  obtain ⟨x0, x1, x2⟩ := h0
  by_cases c0 : 1 ≤ ni ∧ ni ≤ 6
  · by_cases c1 : 1 ≤ (l.length : Int) ∧ (l.length : Int) ≤ 80
    · by_cases c2 : 1 ≤ (p.length : Int) ∧ (p.length : Int) ≤ 8
      · have hR2 : Hid ((nodesOk ni (l.drop 0) 0 && outsOkN l.length (p.drop 0)) = R) := Lib.hid (by
          rw [hR]; unfold netOk; rw [decide_eq_true c0, decide_eq_true (show 1 ≤ l.length ∧ l.length ≤ 80 by omega), decide_eq_true (show 1 ≤ p.length ∧ p.length ≤ 8 by omega)]; rfl)
        have HK := Lib.hid h
        have H8 := Lib.hid h8
        have H9 := Lib.hid h9
        obtain ⟨n, hn⟩ : ∃ n, l.length = n := ⟨_, rfl⟩
        obtain ⟨q, hq⟩ : ∃ q, p.length = q := ⟨_, rfl⟩
        rw [hn] at c1 hR2 HX m0 x1
        rw [hq] at c2 HX m1 x2
        have Hn := Lib.hid hn
        have Hq := Lib.hid hq
        clear hR h h8 h9 hn hq
        go_enter Tryd.func73, Tryd.ntmps73
        go_wp2_with fail
        refine (l00In_any ni 1 6 _ true (by symm; simpa using c0)).mono ?_
        rintro e w1 ⟨rfl, rfl⟩
        go_wp2_with fail
        refine (l00In_any (n : Int) 1 80 _ true (by symm; simpa using c1)).mono ?_
        rintro e w1 ⟨rfl, rfl⟩
        go_wp2_with fail
        refine (l00In_any (q : Int) 1 8 _ true (by symm; simpa using c2)).mono ?_
        rintro e w1 ⟨rfl, rfl⟩
        go_wp2
        clear x0 x1 x2
        go_loopw [3] (fun i wr => ∃ j : Nat, j ≤ n ∧ i = .int .i64 j ∧ Hid ((nodesOk ni (l.drop j) j && outsOkN n (p.drop 0)) = R) ∧ Below w.heap.size w wr) (fun i _ => n - (intOf i).toNat)
        case atStart => exact ⟨0, by omega, rfl, hR2, Below.refl _ _⟩
        case round =>
          clear hR2
          obtain ⟨j, hj, rfl, hf, hbr⟩ := hrel
          obtain ⟨x0, x1, x2⟩ := id (HX.out wr hbr)
          have zr := Nat.lt_of_lt_of_le lb hbr.size
          by_cases hlt : j < n
          · have hlk : j < l.length := by rw [Hn.out]; exact hlt
            have hpa := (HK.out.below hbr).p0 j hlk
            have hzb := (HK.out.below hbr).z0
            have hd : l.drop j = l[j] :: l.drop (j + 1) := List.drop_eq_getElem_cons hlk
            have hwf := H8.out _ (List.getElem_mem hlk)
            generalize l[j] = x at hpa hd hwf
            rw [Nat.zero_add] at hpa
            have hq := hf.out
            rw [hd] at hq
            cases hv : nodeOk ni j x with
            | true =>
              have hR3 : Hid ((nodesOk ni (l.drop (j + 1)) (j + 1) && outsOkN n (p.drop 0)) = R) := Lib.hid (by rw [← hq]; simp [nodesOk, hv])
              have HC := Lib.hid (l04Node_any bb b n ni _ x j wr (HX.out wr hbr) hpa hzb hlt (by omega) bw hwf true hv.symm)
              clear hq hd hf hv hwf hpa
              go_wp2_with fail
              refine HC.out.mono ?_
              rintro e w2 ⟨rfl, hb2⟩
              have T2 := kTrans hbr hb2
              clear x0 x1 x2 hb2 HC
              go_wp2
              exact ⟨⟨j + 1, by omega, by go_num, hR3, T2⟩, by simp [intOf]; omega⟩
            | false =>
              obtain rfl : R = false := by rw [← hq]; simp [nodesOk, hv]
              have HC := Lib.hid (l04Node_any bb b n ni _ x j wr (HX.out wr hbr) hpa hzb hlt (by omega) bw hwf false hv.symm)
              clear hq hd hf hv hwf hpa
              go_wp2_with fail
              refine HC.out.mono ?_
              rintro e w2 ⟨rfl, hb2⟩
              have T2 := kTrans hbr hb2
              clear x0 x1 x2 hb2 HC
              go_wp2
              go_ret
              exact ⟨rfl, T2⟩
          · obtain rfl : j = n := by omega
            have hR3 : Hid (outsOkN j (p.drop 0) = R) := Lib.hid (by rw [← hf.out, List.drop_of_length_le (l := l) (by rw [Hn.out]; omega)]; simp [nodesOk])
            clear hf hlt
            obtain ⟨wo, rfl⟩ : ∃ wo : World, wo = wr := ⟨_, rfl⟩
            go_wp2
            go_loopw [4] (fun i wr => ∃ m : Nat, m ≤ q ∧ i = .int .i64 m ∧ Hid (outsOkN j (p.drop m) = R) ∧ Below w.heap.size w wr) (fun i _ => q - (intOf i).toNat)
            case atStart => exact ⟨0, by omega, rfl, hR3, hbr⟩
            case round =>
              clear hR3 x0 x1 x2
              obtain ⟨m, hm, rfl, hf, hbr2⟩ := hrel
              obtain ⟨x0, x1, x2⟩ := id (HX.out wr hbr2)
              have zr2 := Nat.lt_of_lt_of_le lb hbr2.size
              by_cases hlt : m < q
              · have hlk : m < p.length := by rw [Hq.out]; exact hlt
                have hpa := (HK.out.below hbr2).p1 m hlk
                have hd : p.drop m = p[m] :: p.drop (m + 1) := List.drop_eq_getElem_cons hlk
                have hwf := n16_of (H9.out _ (List.getElem_mem hlk))
                generalize p[m] = x at hpa hd hwf
                simp only [Nat.zero_add] at hpa
                have hxw : IntKind.i64.wrap x = x := IntWalk.i64_in _ (by omega)
                have hq2 := hf.out
                rw [hd] at hq2
                by_cases hA : x < 0
                · have hA' : decide (x < 0) = true := by simpa using hA
                  obtain rfl : R = false := by rw [← hq2]; simp [outsOkN]; intro h1 h2; omega
                  clear hq2 hd hf
                  go_wp2
                  go_quiet (fail)
                  go_wp2
                  go_ret
                  exact ⟨rfl, kDrewN hbr2 _⟩
                · have hA' : decide (x < 0) = false := by simpa using hA
                  by_cases hB : (j : Int) ≤ x
                  · have hB' : decide ((j : Int) ≤ x) = true := by simpa using hB
                    obtain rfl : R = false := by rw [← hq2]; simp [outsOkN]; intro h1 h2; omega
                    clear hq2 hd hf
                    go_wp2
                    go_quiet (fail)
                    go_wp2
                    go_ret
                    exact ⟨rfl, kDrewN hbr2 _⟩
                  · have hB' : decide ((j : Int) ≤ x) = false := by simpa using hB
                    have hR4 : Hid (outsOkN j (p.drop (m + 1)) = R) := Lib.hid (by rw [← hq2]; simp [outsOkN]; intro h; omega)
                    clear hq2 hd hf
                    go_wp2
                    go_quiet (fail)
                    go_wp2
                    exact ⟨⟨m + 1, by omega, by go_num, hR4, kDrewN hbr2 _⟩, by simp [intOf]; omega⟩
              · obtain rfl : R = true := by rw [← hf.out, List.drop_of_length_le (by rw [Hq.out]; omega)]; rfl
                clear hf
                go_wp2
                go_ret
                exact ⟨rfl, hbr2⟩
      · obtain rfl : R = false := by rw [hR]; unfold netOk; rw [decide_eq_false (show ¬ (1 ≤ p.length ∧ p.length ≤ 8) by omega)]; simp
        clear hR h h8 h9 HX
        go_enter Tryd.func73, Tryd.ntmps73
        go_wp2_with fail
        refine (l00In_any ni 1 6 _ true (by symm; simpa using c0)).mono ?_
        rintro e w1 ⟨rfl, rfl⟩
        go_wp2_with fail
        refine (l00In_any (l.length : Int) 1 80 _ true (by symm; simpa using c1)).mono ?_
        rintro e w1 ⟨rfl, rfl⟩
        go_wp2_with fail
        refine (l00In_any (p.length : Int) 1 8 _ false (by symm; simpa using c2)).mono ?_
        rintro e w1 ⟨rfl, rfl⟩
        go_wp2
        go_ret
        exact ⟨rfl, Below.refl _ _⟩
    · obtain rfl : R = false := by rw [hR]; unfold netOk; rw [decide_eq_false (show ¬ (1 ≤ l.length ∧ l.length ≤ 80) by omega)]; simp
      clear hR h h8 h9 HX
      go_enter Tryd.func73, Tryd.ntmps73
      go_wp2_with fail
      refine (l00In_any ni 1 6 _ true (by symm; simpa using c0)).mono ?_
      rintro e w1 ⟨rfl, rfl⟩
      go_wp2_with fail
      refine (l00In_any (l.length : Int) 1 80 _ false (by symm; simpa using c1)).mono ?_
      rintro e w1 ⟨rfl, rfl⟩
      go_wp2
      go_ret
      exact ⟨rfl, Below.refl _ _⟩
  · obtain rfl : R = false := by rw [hR]; unfold netOk; rw [decide_eq_false c0]; simp
    clear hR h h8 h9 HX
    go_enter Tryd.func73, Tryd.ntmps73
    go_wp2_with fail
    refine (l00In_any ni 1 6 _ false (by symm; simpa using c0)).mono ?_
    rintro e w1 ⟨rfl, rfl⟩
    go_wp2
    go_ret
    exact ⟨rfl, Below.refl _ _⟩
end Go.Proofs.YtobhppkcgioheaaDoor

/- CountNodes: the program and the model. -/
namespace Go.Proofs.YtobhppkcgioheaaDoor
open Go.ChangeShapes Go.WideShapes Go.ChangeAt Go.RowKit
set_option linter.unusedVariables false
set_option linter.unusedSimpArgs false

theorem netOk_parts {ni : Int} {l : List Nd} {p : List Int} (h : netOk ni l p = true) : (1 ≤ ni ∧ ni ≤ 6) ∧ (1 ≤ l.length ∧ l.length ≤ 80) ∧ (1 ≤ p.length ∧ p.length ≤ 8) ∧ nodesOk ni l 0 = true ∧ outsOkN l.length p = true := by
  unfold netOk at h
  simp only [Bool.and_eq_true, decide_eq_true_eq] at h
  exact ⟨h.1.1.1.1, h.1.1.1.2, h.1.1.2, h.1.2, h.2⟩
theorem nodesOk_all {ni : Int} : ∀ {l : List Nd} {k : Nat}, nodesOk ni l k = true → ∀ (i : Nat) (h : i < l.length), nodeOk ni (k + i) l[i] = true
  | x :: l, k, h, 0, _ => by simp only [nodesOk, Bool.and_eq_true] at h; exact h.1
  | x :: l, k, h, i + 1, hi => by
    simp only [nodesOk, Bool.and_eq_true] at h
    have := nodesOk_all h.2 i (by simpa using hi)
    simpa [Nat.add_assoc, Nat.add_comm 1 i] using this
theorem nodeOk_cases {ni : Int} {k : Nat} {x : Nd} (h : nodeOk ni k x = true) : (x.kind = 0 ∧ (0 ≤ x.a ∧ x.a < ni) ∧ x.b = 0) ∨ (x.kind = 1 ∧ x.a = 0 ∧ x.b = 0) ∨ ((x.kind = 2 ∨ x.kind = 3) ∧ (0 ≤ x.a ∧ x.a < k) ∧ 0 ≤ x.b ∧ x.b < k) := by
  unfold nodeOk at h
  split at h
  · rename_i e; exact .inl ⟨e, of_decide_eq_true h⟩
  · split at h
    · rename_i e; exact .inr (.inl ⟨e, of_decide_eq_true h⟩)
    · split at h
      · rename_i e; exact .inr (.inr ⟨e, of_decide_eq_true h⟩)
      · cases h
theorem netOk_node {ni : Int} {l : List Nd} {p : List Int} (h : netOk ni l p = true) (i : Nat) (hi : i < l.length) : nodeOk ni i l[i] = true := by
  have := nodesOk_all (netOk_parts h).2.2.2.1 i hi
  rwa [Nat.zero_add] at this
theorem netOk_kinds {ni : Int} {l : List Nd} {p : List Int} (h : netOk ni l p = true) : ∀ x ∈ l, 0 ≤ x.kind ∧ x.kind ≤ 3 := by
  intro x hx
  obtain ⟨i, hi, rfl⟩ := List.mem_iff_getElem.1 hx
  rcases nodeOk_cases (netOk_node h i hi) with h | h | h <;> omega
theorem outsOkN_all {n : Nat} : ∀ {p : List Int}, outsOkN n p = true → ∀ x ∈ p, 0 ≤ x ∧ x < n
  | y :: p, h, x, hx => by
    simp only [outsOkN, Bool.and_eq_true, decide_eq_true_eq] at h
    rcases List.mem_cons.1 hx with rfl | hx
    · exact h.1
    · exact outsOkN_all h.2 x hx
/-- how many pieces are of a kind -/
def cntN (j : Int) : List Nd → Int
  | [] => 0
  | p :: l => cntN j l + (if p.kind = j then 1 else 0)
theorem cntN_snoc (j : Int) (p : Nd) : ∀ l : List Nd, cntN j (l ++ [p]) = cntN j l + (if p.kind = j then 1 else 0)
  | [] => by simp [cntN]
  | q :: l => by simp only [List.cons_append, cntN, cntN_snoc j p l]; omega
theorem cntN_le (j : Int) : ∀ l : List Nd, 0 ≤ cntN j l ∧ cntN j l ≤ l.length
  | [] => by simp [cntN]
  | q :: l => by have := cntN_le j l; simp only [cntN, List.length_cons]; split <;> omega
/-- six numbers in a row of cells -/
def FourAt (w : World) (b : Nat) (l : List Nd) : Prop := ∀ j : Nat, j < 4 → w.cell? ⟨b, j, none⟩ = some (.int .i64 (cntN j l))
def fourV (l : List Nd) : Value := .agg #[.int .i64 (cntN 0 l), .int .i64 (cntN 1 l), .int .i64 (cntN 2 l), .int .i64 (cntN 3 l)]
/-- the call's boxes: the board's, the result's, the counts' -/
structure CnSt (wr : World) (s : Nat) (ni : Int) (v u : Value) (l : List Nd) : Prop where
  t1 : NwAt wr s ni v u
  t2 : ∀ j : Nat, j < 4 → wr.cell? ⟨s + 1, j, none⟩ = some (.int .i64 0)
  f2 : ∀ j, wr.frozen? ⟨s + 1, j, none⟩ = false
  t3 : FourAt wr (s + 1 + 1) l
  f3 : ∀ j, wr.frozen? ⟨s + 1 + 1, j, none⟩ = false
  lt : s + 1 + 1 < wr.heap.size
theorem CnSt.below {wr w' : World} {s : Nat} {ni : Int} {v u : Value} {l : List Nd} (h : CnSt wr s ni v u l) (hb : Below wr.heap.size wr w') : CnSt w' s ni v u l :=
  have hl := h.lt
  ⟨h.t1.below hb (by omega), fun j hj => (hb.cell (p := ⟨s + 1, j, none⟩) (by simp; omega)).trans (h.t2 j hj), fun j => (hb.frozen (p := ⟨s + 1, j, none⟩) (by simp; omega)).trans (h.f2 j),
    fun j hj => (hb.cell (p := ⟨s + 1 + 1, j, none⟩) hl).trans (h.t3 j hj), fun j => (hb.frozen (p := ⟨s + 1 + 1, j, none⟩) hl).trans (h.f3 j), Nat.lt_of_lt_of_le hl hb.size⟩
theorem CnSt.store {wr : World} {s : Nat} {ni : Int} {v u : Value} {l : List Nd} (h : CnSt wr s ni v u l) (p : Nd) (j : Nat) (hj : j < 4) (hp : p.kind = j) (z : Int) (hz : z = cntN j l + 1) : CnSt (wr.setCell ⟨s + 1 + 1, j, none⟩ (.int .i64 z)) s ni v u (l ++ [p]) := by
  have ne : ∀ (b i : Nat), b ≠ s + 1 + 1 → (⟨s + 1 + 1, j, none⟩ : Addr) ≠ ⟨b, i, none⟩ := by intro b i hb e; injection e with h1 _ _; exact hb h1.symm
  obtain ⟨⟨h0, h1, h2⟩, t2, f2, t3, f3, lt⟩ := h
  refine ⟨⟨?_, ?_, ?_⟩, fun i hi => ?_, fun i => ?_, fun i hi => ?_, fun i => ?_, by simpa [World.size_setCell] using lt⟩
  · rw [World.cell?_setCell_other _ _ _ _ (ne _ _ (by omega))]; exact h0
  · rw [World.cell?_setCell_other _ _ _ _ (ne _ _ (by omega))]; exact h1
  · rw [World.cell?_setCell_other _ _ _ _ (ne _ _ (by omega))]; exact h2
  · rw [World.cell?_setCell_other _ _ _ _ (ne _ _ (by omega))]; exact t2 i hi
  · rw [World.frozen?_setCell]; exact f2 i
  · rw [cntN_snoc, hp]
    by_cases e : i = j
    · subst e
      rw [World.cell?_setCell_same _ _ _ (t3 i hi), hz, if_pos rfl]
    · rw [World.cell?_setCell_other _ _ _ _ (by intro e2; injection e2 with _ h2 _; exact e h2.symm), if_neg (by omega), Int.add_zero]; exact t3 i hi
  · rw [World.frozen?_setCell]; exact f3 i
theorem CnSt.start (w : World) (ni : Int) (v u : Value) (t t6 : TypeId) : CnSt (((w.alloc (.cells #[.int .i8 ni, v, u] t)).alloc (.cells #[.int .i64 0, .int .i64 0, .int .i64 0, .int .i64 0] t6)).alloc (.cells #[.int .i64 0, .int .i64 0, .int .i64 0, .int .i64 0] t6)) w.heap.size ni v u [] := by
  have b1 : Below (w.alloc (.cells #[.int .i8 ni, v, u] t)).heap.size (w.alloc (.cells #[.int .i8 ni, v, u] t)) (((w.alloc (.cells #[.int .i8 ni, v, u] t)).alloc (.cells #[.int .i64 0, .int .i64 0, .int .i64 0, .int .i64 0] t6)).alloc (.cells #[.int .i64 0, .int .i64 0, .int .i64 0, .int .i64 0] t6)) := kAlloc (kAlloc (Below.refl _ _) _) _
  have b2 : Below ((w.alloc (.cells #[.int .i8 ni, v, u] t)).alloc (.cells #[.int .i64 0, .int .i64 0, .int .i64 0, .int .i64 0] t6)).heap.size ((w.alloc (.cells #[.int .i8 ni, v, u] t)).alloc (.cells #[.int .i64 0, .int .i64 0, .int .i64 0, .int .i64 0] t6)) (((w.alloc (.cells #[.int .i8 ni, v, u] t)).alloc (.cells #[.int .i64 0, .int .i64 0, .int .i64 0, .int .i64 0] t6)).alloc (.cells #[.int .i64 0, .int .i64 0, .int .i64 0, .int .i64 0] t6)) := kAlloc (Below.refl _ _) _
  have six : ∀ (x : World) (j : Nat), j < 4 → (x.alloc (.cells #[.int .i64 0, .int .i64 0, .int .i64 0, .int .i64 0] t6)).cell? ⟨x.heap.size, j, none⟩ = some (.int .i64 0) := by
    intro x j hj
    have : j = 0 ∨ j = 1 ∨ j = 2 ∨ j = 3 := by omega
    rcases this with rfl | rfl | rfl | rfl <;> simp
  have frz : ∀ (x : World) (j : Nat), (x.alloc (.cells #[.int .i64 0, .int .i64 0, .int .i64 0, .int .i64 0] t6)).frozen? ⟨x.heap.size, j, none⟩ = false := fun x j => frozen_of_row _ _ j _ _ (heap_alloc_new _ _)
  have e1 : (w.alloc (.cells #[.int .i8 ni, v, u] t)).heap.size = w.heap.size + 1 := by simp
  have e2 : ((w.alloc (.cells #[.int .i8 ni, v, u] t)).alloc (.cells #[.int .i64 0, .int .i64 0, .int .i64 0, .int .i64 0] t6)).heap.size = w.heap.size + 1 + 1 := by simp
  refine ⟨(NwAt.box w ni v u t).below b1 (by simp), fun j hj => ?_, fun j => ?_, fun j hj => ?_, fun j => ?_, by simp⟩
  · have := six (w.alloc (.cells #[.int .i8 ni, v, u] t)) j hj
    rw [e1] at this
    exact (b2.cell (p := ⟨w.heap.size + 1, j, none⟩) (by simp)).trans this
  · have := frz (w.alloc (.cells #[.int .i8 ni, v, u] t)) j
    rw [e1] at this
    exact (b2.frozen (p := ⟨w.heap.size + 1, j, none⟩) (by simp)).trans this
  · have := six ((w.alloc (.cells #[.int .i8 ni, v, u] t)).alloc (.cells #[.int .i64 0, .int .i64 0, .int .i64 0, .int .i64 0] t6)) j hj
    rw [e2] at this
    exact this
  · have := frz ((w.alloc (.cells #[.int .i8 ni, v, u] t)).alloc (.cells #[.int .i64 0, .int .i64 0, .int .i64 0, .int .i64 0] t6)) j
    rw [e2] at this
    exact this

end Go.Proofs.YtobhppkcgioheaaDoor
