/- Networks: which are valid; both sides. -/
import Derived.Test.YtlbnhdnmcnfgdaaDoorNe
import Derived.Laws.StructEq
namespace Go.Proofs.YtlbnhdnmcnfgdaaDoor
open Go.ChangeShapes Go.WideShapes Go.ChangeAt Go.RowKit Go.Joins Go.Deep
set_option linter.unusedVariables false
set_option linter.unusedSimpArgs false

theorem n16_of {n : Int} (h : (Lit.int .i16 n).wf = true) : -32768 ≤ n ∧ n ≤ 32767 := bounds_i16 h
theorem Nd_eq (p q : Nd) (w : World) : (Op.equalIn 10000 48 (.agg #[.int .i8 p.kind, .int .i16 p.a, .int .i16 p.b]) (.agg #[.int .i8 q.kind, .int .i16 q.a, .int .i16 q.b])).run Tryd.prog w = .ok (decide (p = q)) w := by
  obtain ⟨a, b, c⟩ := p
  obtain ⟨a', b', c'⟩ := q
  have hS : Tryd.prog.underlying 48 = some (.struct (Tryd.prog.fieldsOf 48)) := by kernel_rfl
  have hp : Tryd.prog.stoodInHeld 48 = false := by kernel_rfl
  rw [show (10000 : Nat) = 9999 + 1 from rfl, run_equalIn_agg w 9999 48 _ _ hS hp]
  simp only [Program.fieldsOf, Tryd.underlying48]
  go_simp
  by_cases h1 : a = a' <;> by_cases h2 : b = b' <;> by_cases h3 : c = c' <;> simp [h1, h2, h3]
/-- a node that may stand behind 'k' others -/
def nodeOk (ni : Int) (k : Nat) (x : Nd) : Bool :=
  if x.kind = 0 then decide ((0 ≤ x.a ∧ x.a < ni) ∧ x.b = 0)
  else if x.kind = 1 then decide (x.a = 0 ∧ x.b = 0)
  else if x.kind = 2 ∨ x.kind = 3 then decide ((0 ≤ x.a ∧ x.a < k) ∧ (0 ≤ x.b ∧ x.b < k))
  else false
def nodesOk (ni : Int) : List Nd → Nat → Bool
  | [], _ => true
  | x :: l, k => nodeOk ni k x && nodesOk ni l (k + 1)
def outsOkN (n : Nat) : List Int → Bool
  | [] => true
  | x :: p => decide (0 ≤ x ∧ x < n) && outsOkN n p
def netOk (ni : Int) (l : List Nd) (p : List Int) : Bool :=
  decide (1 ≤ ni ∧ ni ≤ 6) && decide (1 ≤ l.length ∧ l.length ≤ 80) && decide (1 ≤ p.length ∧ p.length ≤ 8) && nodesOk ni l 0 && outsOkN l.length p

theorem isInputs_any (n : Int) (w : World) (b : Bool) (hb : b = decide (1 ≤ n ∧ n ≤ 6)) :
    Calls Tryd.prog 34 #[.int .i64 n] w fun e w' => e = .returned (.bool b) ∧ w = w' := by
  by_cases h1 : 1 ≤ n
  · by_cases h2 : n ≤ 6
    · obtain rfl : b = true := by rw [hb]; simp; omega
      clear hb
      go_enter Tryd.func34, Tryd.ntmps34
      go_wp2
      go_ret
      exact ⟨rfl, rfl⟩
    · obtain rfl : b = false := by rw [hb]; simp; omega
      have h2' : decide (n ≤ 6) = false := by simp; omega
      clear hb h2
      go_enter Tryd.func34, Tryd.ntmps34
      go_wp2
      go_ret
      exact ⟨rfl, rfl⟩
  · obtain rfl : b = false := by rw [hb]; simp; omega
    have h1' : decide (1 ≤ n) = false := by simp; omega
    clear hb h1
    go_enter Tryd.func34, Tryd.ntmps34
    go_wp2
    go_ret
    exact ⟨rfl, rfl⟩
theorem nCount_any (n m : Int) (w : World) (b : Bool) (hb : b = decide (1 ≤ n ∧ n ≤ m)) :
    Calls Tryd.prog 35 #[.int .i64 n, .int .i64 m] w fun e w' => e = .returned (.bool b) ∧ w = w' := by
  by_cases h1 : 1 ≤ n
  · by_cases h2 : n ≤ m
    · obtain rfl : b = true := by rw [hb]; simp; omega
      clear hb
      go_enter Tryd.func35, Tryd.ntmps35
      go_wp2
      go_ret
      exact ⟨rfl, rfl⟩
    · obtain rfl : b = false := by rw [hb]; simp; omega
      have h2' : decide (n ≤ m) = false := by simp; omega
      clear hb h2
      go_enter Tryd.func35, Tryd.ntmps35
      go_wp2
      go_ret
      exact ⟨rfl, rfl⟩
  · obtain rfl : b = false := by rw [hb]; simp; omega
    have h1' : decide (1 ≤ n) = false := by simp; omega
    clear hb h1
    go_enter Tryd.func35, Tryd.ntmps35
    go_wp2
    go_ret
    exact ⟨rfl, rfl⟩
theorem isBefore_any (x n : Int) (w : World) (bx : -32768 ≤ x ∧ x ≤ 32767) (b : Bool) (hb : b = decide (0 ≤ x ∧ x < n)) :
    Calls Tryd.prog 37 #[.int .i16 x, .int .i64 n] w fun e w' => e = .returned (.bool b) ∧ w = w' := by
  have hx : IntKind.i64.wrap x = x := IntWalk.i64_in _ (by omega)
  by_cases h1 : 0 ≤ x
  · by_cases h2 : x < n
    · obtain rfl : b = true := by rw [hb]; simp; omega
      clear hb
      go_enter Tryd.func37, Tryd.ntmps37
      go_wp2
      go_ret
      exact ⟨rfl, rfl⟩
    · obtain rfl : b = false := by rw [hb]; simp; omega
      have h2' : decide (x < n) = false := by simp; omega
      clear hb
      go_enter Tryd.func37, Tryd.ntmps37
      go_wp2
      go_ret
      exact ⟨rfl, rfl⟩
  · obtain rfl : b = false := by rw [hb]; simp; omega
    have h1' : decide (0 ≤ x) = false := by simp; omega
    clear hb h1
    go_enter Tryd.func37, Tryd.ntmps37
    go_wp2
    go_ret
    exact ⟨rfl, rfl⟩

set_option maxRecDepth 100000 in
set_option maxHeartbeats 4000000 in
theorem takesNode_any (ni : Int) (a0 a1 : Option Addr) (n0 n1 d0 d1 : Nat) (x : Nd) (k : Nat) (w : World) (bw : i8 ni) (hx : x.wf) (R : Bool) (hR : R = nodeOk ni k x) :
    Calls Tryd.prog 36 #[.agg #[.int .i8 ni, .slice a0 n0 d0, .slice a1 n1 d1], .agg #[.int .i8 x.kind, .int .i16 x.a, .int .i16 x.b], .int .i64 k] w fun e w' => e = .returned (.bool R) ∧ Below w.heap.size w w' := by
  have hni : IntKind.i64.wrap ni = ni := IntWalk.i64_in _ (by have := bw.1; have := bw.2; omega)
  have b1 := n16_of hx.2.1
  have b2 := n16_of hx.2.2
  have he := Nd_eq x ⟨1, 0, 0⟩
  have hgm : Tryd.prog.eqGuardType Tryd.prog.depth 48 = false := by kernel_rfl
  by_cases k0 : x.kind = 0
  · have e0 : x.kind = 0 := k0
    by_cases hA : 0 ≤ x.a ∧ x.a < ni
    · have hR2 : R = decide (x.b = 0) := by rw [hR]; unfold nodeOk; rw [if_pos k0]; by_cases hb : x.b = 0 <;> simp [hb, hA]
      clear hR he
      by_cases hb : x.b = 0
      · obtain rfl : R = true := by rw [hR2]; simpa using hb
        clear hR2
        go_enter Tryd.func36, Tryd.ntmps36
        go_wp2_with fail
        refine (isBefore_any x.a ni _ b1 true (by symm; simpa using hA)).mono ?_
        rintro e w1 ⟨rfl, rfl⟩
        go_wp2
        go_ret
        exact ⟨rfl, by repeat (first | with_reducible exact Below.refl _ _ | (with_reducible refine kSet ?_ ?hB _; case hB => (simp; try omega)) | with_reducible refine kAlloc ?_ _ | with_reducible refine Below.drew ?_ | with_reducible refine kDrewN ?_ _ | with_reducible refine kTrans ?_ (by assumption))⟩
      · obtain rfl : R = false := by rw [hR2]; simpa using hb
        have hb2 : (x.b == 0) = false := by simpa using hb
        clear hR2
        go_enter Tryd.func36, Tryd.ntmps36
        go_wp2_with fail
        refine (isBefore_any x.a ni _ b1 true (by symm; simpa using hA)).mono ?_
        rintro e w1 ⟨rfl, rfl⟩
        go_wp2
        go_ret
        exact ⟨rfl, by repeat (first | with_reducible exact Below.refl _ _ | (with_reducible refine kSet ?_ ?hB _; case hB => (simp; try omega)) | with_reducible refine kAlloc ?_ _ | with_reducible refine Below.drew ?_ | with_reducible refine kDrewN ?_ _ | with_reducible refine kTrans ?_ (by assumption))⟩
    · obtain rfl : R = false := by rw [hR]; unfold nodeOk; rw [if_pos k0]; simp; intro h1 h2; exact absurd ⟨h1, h2⟩ hA
      clear hR he
      go_enter Tryd.func36, Tryd.ntmps36
      go_wp2_with fail
      refine (isBefore_any x.a ni _ b1 false (by symm; simpa using hA)).mono ?_
      rintro e w1 ⟨rfl, rfl⟩
      go_wp2
      go_ret
      exact ⟨rfl, by repeat (first | with_reducible exact Below.refl _ _ | (with_reducible refine kSet ?_ ?hB _; case hB => (simp; try omega)) | with_reducible refine kAlloc ?_ _ | with_reducible refine Below.drew ?_ | with_reducible refine kDrewN ?_ _ | with_reducible refine kTrans ?_ (by assumption))⟩
  · by_cases k1 : x.kind = 1
    · have hR2 : R = decide (x = ⟨1, 0, 0⟩) := by
        rw [hR]; unfold nodeOk; rw [if_neg k0, if_pos k1]
        obtain ⟨kx, xa, xb⟩ := x
        simp only at k1
        subst k1
        simp
      cases hv : R with
      | true =>
        rw [hv] at hR2
        rw [← hR2] at he
        simp only [k1] at he
        clear hR hR2 k0
        go_enter Tryd.func36, Tryd.ntmps36
        go_wp2
        go_ret
        exact ⟨rfl, by repeat (first | with_reducible exact Below.refl _ _ | (with_reducible refine kSet ?_ ?hB _; case hB => (simp; try omega)) | with_reducible refine kAlloc ?_ _ | with_reducible refine Below.drew ?_ | with_reducible refine kDrewN ?_ _ | with_reducible refine kTrans ?_ (by assumption))⟩
      | false =>
        rw [hv] at hR2
        rw [← hR2] at he
        simp only [k1] at he
        clear hR hR2 k0
        go_enter Tryd.func36, Tryd.ntmps36
        go_wp2
        go_ret
        exact ⟨rfl, by repeat (first | with_reducible exact Below.refl _ _ | (with_reducible refine kSet ?_ ?hB _; case hB => (simp; try omega)) | with_reducible refine kAlloc ?_ _ | with_reducible refine Below.drew ?_ | with_reducible refine kDrewN ?_ _ | with_reducible refine kTrans ?_ (by assumption))⟩
    · by_cases k2 : x.kind = 2 ∨ x.kind = 3
      · have hR2 : R = decide ((0 ≤ x.a ∧ x.a < k) ∧ (0 ≤ x.b ∧ x.b < k)) := by rw [hR]; unfold nodeOk; rw [if_neg k0, if_neg k1, if_pos k2]
        clear hR he k0 k1
        by_cases hA : 0 ≤ x.a ∧ x.a < (k : Int)
        · by_cases hB : 0 ≤ x.b ∧ x.b < (k : Int)
          · obtain rfl : R = true := by rw [hR2]; simpa using ⟨hA, hB⟩
            clear hR2
            rcases k2 with k2 | k2
            · go_enter Tryd.func36, Tryd.ntmps36
              go_wp2_with fail
              refine (isBefore_any x.a k _ b1 true (by symm; simpa using hA)).mono ?_
              rintro e w1 ⟨rfl, rfl⟩
              go_wp2_with fail
              refine (isBefore_any x.b k _ b2 true (by symm; simpa using hB)).mono ?_
              rintro e w1 ⟨rfl, rfl⟩
              go_wp2
              go_ret
              exact ⟨rfl, by repeat (first | with_reducible exact Below.refl _ _ | (with_reducible refine kSet ?_ ?hB _; case hB => (simp; try omega)) | with_reducible refine kAlloc ?_ _ | with_reducible refine Below.drew ?_ | with_reducible refine kDrewN ?_ _ | with_reducible refine kTrans ?_ (by assumption))⟩
            · go_enter Tryd.func36, Tryd.ntmps36
              go_wp2_with fail
              refine (isBefore_any x.a k _ b1 true (by symm; simpa using hA)).mono ?_
              rintro e w1 ⟨rfl, rfl⟩
              go_wp2_with fail
              refine (isBefore_any x.b k _ b2 true (by symm; simpa using hB)).mono ?_
              rintro e w1 ⟨rfl, rfl⟩
              go_wp2
              go_ret
              exact ⟨rfl, by repeat (first | with_reducible exact Below.refl _ _ | (with_reducible refine kSet ?_ ?hB _; case hB => (simp; try omega)) | with_reducible refine kAlloc ?_ _ | with_reducible refine Below.drew ?_ | with_reducible refine kDrewN ?_ _ | with_reducible refine kTrans ?_ (by assumption))⟩
          · obtain rfl : R = false := by rw [hR2]; simp; intro _ _ h1 ; have := hB; omega
            clear hR2
            rcases k2 with k2 | k2
            · go_enter Tryd.func36, Tryd.ntmps36
              go_wp2_with fail
              refine (isBefore_any x.a k _ b1 true (by symm; simpa using hA)).mono ?_
              rintro e w1 ⟨rfl, rfl⟩
              go_wp2_with fail
              refine (isBefore_any x.b k _ b2 false (by symm; simpa using hB)).mono ?_
              rintro e w1 ⟨rfl, rfl⟩
              go_wp2
              go_ret
              exact ⟨rfl, by repeat (first | with_reducible exact Below.refl _ _ | (with_reducible refine kSet ?_ ?hB _; case hB => (simp; try omega)) | with_reducible refine kAlloc ?_ _ | with_reducible refine Below.drew ?_ | with_reducible refine kDrewN ?_ _ | with_reducible refine kTrans ?_ (by assumption))⟩
            · go_enter Tryd.func36, Tryd.ntmps36
              go_wp2_with fail
              refine (isBefore_any x.a k _ b1 true (by symm; simpa using hA)).mono ?_
              rintro e w1 ⟨rfl, rfl⟩
              go_wp2_with fail
              refine (isBefore_any x.b k _ b2 false (by symm; simpa using hB)).mono ?_
              rintro e w1 ⟨rfl, rfl⟩
              go_wp2
              go_ret
              exact ⟨rfl, by repeat (first | with_reducible exact Below.refl _ _ | (with_reducible refine kSet ?_ ?hB _; case hB => (simp; try omega)) | with_reducible refine kAlloc ?_ _ | with_reducible refine Below.drew ?_ | with_reducible refine kDrewN ?_ _ | with_reducible refine kTrans ?_ (by assumption))⟩
        · obtain rfl : R = false := by rw [hR2]; simp; intro h1 h2 ; have := hA; omega
          clear hR2
          rcases k2 with k2 | k2
          · go_enter Tryd.func36, Tryd.ntmps36
            go_wp2_with fail
            refine (isBefore_any x.a k _ b1 false (by symm; simpa using hA)).mono ?_
            rintro e w1 ⟨rfl, rfl⟩
            go_wp2
            go_ret
            exact ⟨rfl, by repeat (first | with_reducible exact Below.refl _ _ | (with_reducible refine kSet ?_ ?hB _; case hB => (simp; try omega)) | with_reducible refine kAlloc ?_ _ | with_reducible refine Below.drew ?_ | with_reducible refine kDrewN ?_ _ | with_reducible refine kTrans ?_ (by assumption))⟩
          · go_enter Tryd.func36, Tryd.ntmps36
            go_wp2_with fail
            refine (isBefore_any x.a k _ b1 false (by symm; simpa using hA)).mono ?_
            rintro e w1 ⟨rfl, rfl⟩
            go_wp2
            go_ret
            exact ⟨rfl, by repeat (first | with_reducible exact Below.refl _ _ | (with_reducible refine kSet ?_ ?hB _; case hB => (simp; try omega)) | with_reducible refine kAlloc ?_ _ | with_reducible refine Below.drew ?_ | with_reducible refine kDrewN ?_ _ | with_reducible refine kTrans ?_ (by assumption))⟩
      · obtain rfl : R = false := by rw [hR]; unfold nodeOk; rw [if_neg k0, if_neg k1, if_neg k2]
        have d0 : decide (x.kind = 0) = false := by simpa using k0
        have d1 : decide (x.kind = 1) = false := by simpa using k1
        have d2 : ¬ x.kind = 2 := fun h => k2 (.inl h)
        have d3 : ¬ x.kind = 3 := fun h => k2 (.inr h)
        clear hR he k2
        go_enter Tryd.func36, Tryd.ntmps36
        go_wp2
        go_ret
        exact ⟨rfl, by repeat (first | with_reducible exact Below.refl _ _ | (with_reducible refine kSet ?_ ?hB _; case hB => (simp; try omega)) | with_reducible refine kAlloc ?_ _ | with_reducible refine Below.drew ?_ | with_reducible refine kDrewN ?_ _ | with_reducible refine kTrans ?_ (by assumption))⟩
set_option maxRecDepth 100000 in
set_option maxHeartbeats 8000000 in
theorem implValidNetwork_any (b k : Nat) (ni : Int) (l : List Nd) (p : List Int) (w : World) (h : NK w b k l p) (h8 : NdsWf l) (h9 : ShsWf p) (bw : i8 ni) (m0 : l.length ≤ 1048576) (m1 : p.length ≤ 1048576) (R : Bool) (hR : R = netOk ni l p) :
    Calls Tryd.prog 20 #[.agg #[.int .i8 ni, .slice (some ⟨b, 0, none⟩) l.length l.length, .slice (some ⟨k, 0, none⟩) p.length p.length]] w fun e w' => e = .returned (.bool R) ∧ Below w.heap.size w w' := by
  have hni : IntKind.i64.wrap ni = ni := IntWalk.i64_in _ (by have := bw.1; have := bw.2; omega)
  have ka : Below w.heap.size w (w.alloc (.cells #[.int .i8 ni, .slice (some ⟨b, 0, none⟩) l.length l.length, .slice (some ⟨k, 0, none⟩) p.length p.length] 32)) := by repeat (first | with_reducible exact Below.refl _ _ | (with_reducible refine kSet ?_ ?hB _; case hB => (simp; try omega)) | with_reducible refine kAlloc ?_ _ | with_reducible refine Below.drew ?_ | with_reducible refine kDrewN ?_ _ | with_reducible refine kTrans ?_ (by assumption))
  by_cases c0 : 1 ≤ ni ∧ ni ≤ 6
  · by_cases c1 : 1 ≤ (l.length : Int) ∧ (l.length : Int) ≤ 80
    · by_cases c2 : 1 ≤ (p.length : Int) ∧ (p.length : Int) ≤ 8
      · have hR2 : Hid ((nodesOk ni (l.drop 0) 0 && outsOkN l.length (p.drop 0)) = R) := Lib.hid (by
          rw [hR]; unfold netOk; rw [decide_eq_true c0, decide_eq_true (show 1 ≤ l.length ∧ l.length ≤ 80 by omega), decide_eq_true (show 1 ≤ p.length ∧ p.length ≤ 8 by omega)]; rfl)
        have BX := NwAt.box w ni (.slice (some ⟨b, 0, none⟩) l.length l.length) (.slice (some ⟨k, 0, none⟩) p.length p.length) 32
        obtain ⟨W0, hW0⟩ : ∃ W0, w.alloc (.cells #[.int .i8 ni, .slice (some ⟨b, 0, none⟩) l.length l.length, .slice (some ⟨k, 0, none⟩) p.length p.length] 32) = W0 := ⟨_, rfl⟩
        rw [hW0] at BX ka
        have lb := BX.lt
        have HX := Lib.hid (fun W (hW : Below W0.heap.size W0 W) => BX.below hW lb)
        have HK := Lib.hid (h.below ka)
        have H8 := Lib.hid h8
        have H9 := Lib.hid h9
        obtain ⟨n, hn⟩ : ∃ n, l.length = n := ⟨_, rfl⟩
        obtain ⟨q, hq⟩ : ∃ q, p.length = q := ⟨_, rfl⟩
        rw [hn] at c1 hR2 HX m0 ⊢
        rw [hq] at c2 HX m1 ⊢
        have Hn := Lib.hid hn
        have Hq := Lib.hid hq
        rw [hn, hq] at hW0 BX
        have HW0 := Lib.hid hW0
        obtain ⟨x0, x1, x2⟩ := BX
        clear hR h h8 h9 hn hq hW0
        go_enter Tryd.func20, Tryd.ntmps20
        go_upto_region 1 with fail
        try rw [HW0.out]
        go_wp2_with fail
        refine (isInputs_any ni _ true (by symm; simpa using c0)).mono ?_
        rintro e w1 ⟨rfl, rfl⟩
        go_wp2_with fail
        refine (nCount_any (n : Int) 80 _ true (by symm; simpa using c1)).mono ?_
        rintro e w1 ⟨rfl, rfl⟩
        go_wp2_with fail
        refine (nCount_any (q : Int) 8 _ true (by symm; simpa using c2)).mono ?_
        rintro e w1 ⟨rfl, rfl⟩
        go_wp2
        clear x0 x1 x2
        go_loopw [3, 4, 29] (fun _ _ i wr => ∃ j : Nat, j ≤ n ∧ i = .int .i64 j ∧ Hid ((nodesOk ni (l.drop j) j && outsOkN n (p.drop 0)) = R) ∧ Below W0.heap.size W0 wr) (fun _ _ i _ => n - (intOf i).toNat)
        case atStart => exact ⟨0, by omega, rfl, hR2, Below.refl _ _⟩
        case round =>
          clear hR2
          obtain ⟨j, hj, rfl, hf, hbr⟩ := hrel
          obtain ⟨x0, x1, x2⟩ := HX.out wr hbr
          have zr := Nat.lt_of_lt_of_le lb hbr.size
          by_cases hlt : j < n
          · have hlk : j < l.length := by rw [Hn.out]; exact hlt
            have hpa := (HK.out.below hbr).p0 j hlk
            have hd : l.drop j = l[j] :: l.drop (j + 1) := List.drop_eq_getElem_cons hlk
            have hwf := H8.out _ (List.getElem_mem hlk)
            generalize l[j] = x at hpa hd hwf
            obtain ⟨a0, a1, a2⟩ := hpa
            simp only [Nat.zero_add] at a0 a1 a2
            have hq := hf.out
            rw [hd] at hq
            have kin : Below wr.heap.size wr (wr.alloc (.cells #[.int .i8 x.kind, .int .i16 x.a, .int .i16 x.b] 48)) := kAlloc (Below.refl _ _) _
            cases hv : nodeOk ni j x with
            | true =>
              have hR3 : Hid ((nodesOk ni (l.drop (j + 1)) (j + 1) && outsOkN n (p.drop 0)) = R) := Lib.hid (by rw [← hq]; simp [nodesOk, hv])
              have HV := Lib.hid hv
              have HWF := Lib.hid hwf
              clear hq hd hf hv hwf
              go_wp2_with fail
              refine (takesNode_any ni _ _ _ _ _ _ x j _ bw HWF.out true HV.out.symm).mono ?_
              rintro e w2 ⟨rfl, hb2⟩
              have T2 := kTrans (kTrans hbr kin) hb2
              clear x0 x1 x2 a0 a1 a2 hb2 kin
              go_wp2
              exact ⟨⟨j + 1, by omega, by go_num, hR3, T2⟩, by simp [intOf]; omega⟩
            | false =>
              obtain rfl : R = false := by rw [← hq]; simp [nodesOk, hv]
              have HV := Lib.hid hv
              have HWF := Lib.hid hwf
              clear hq hd hf hv hwf
              go_wp2_with fail
              refine (takesNode_any ni _ _ _ _ _ _ x j _ bw HWF.out false HV.out.symm).mono ?_
              rintro e w2 ⟨rfl, hb2⟩
              have T2 := kTrans ka (kTrans (kTrans hbr kin) hb2)
              clear x0 x1 x2 a0 a1 a2 hb2 kin
              go_wp2
              go_ret
              exact ⟨rfl, T2⟩
          · obtain rfl : j = n := by omega
            have hR3 : Hid (outsOkN j (p.drop 0) = R) := Lib.hid (by rw [← hf.out, List.drop_of_length_le (l := l) (by rw [Hn.out]; omega)]; simp [nodesOk])
            clear hf hlt
            obtain ⟨wo, rfl⟩ : ∃ wo : World, wo = wr := ⟨_, rfl⟩
            go_wp2
            go_loopw [6, 43] (fun _ i wr => ∃ m : Nat, m ≤ q ∧ i = .int .i64 m ∧ Hid (outsOkN j (p.drop m) = R) ∧ Below W0.heap.size W0 wr) (fun _ i _ => q - (intOf i).toNat)
            case atStart => exact ⟨0, by omega, rfl, hR3, hbr⟩
            case round =>
              clear hR3 x0 x1 x2
              obtain ⟨m, hm, rfl, hf, hbr2⟩ := hrel
              obtain ⟨x0, x1, x2⟩ := HX.out wr hbr2
              have zr2 := Nat.lt_of_lt_of_le lb hbr2.size
              by_cases hlt : m < q
              · have hlk : m < p.length := by rw [Hq.out]; exact hlt
                have hpa := (HK.out.below hbr2).p1 m hlk
                have hd : p.drop m = p[m] :: p.drop (m + 1) := List.drop_eq_getElem_cons hlk
                have hwf := n16_of (H9.out _ (List.getElem_mem hlk))
                generalize p[m] = x at hpa hd hwf
                simp only [Nat.zero_add] at hpa
                have hq2 := hf.out
                rw [hd] at hq2
                by_cases hA : 0 ≤ x ∧ x < (j : Int)
                · have hR4 : Hid (outsOkN j (p.drop (m + 1)) = R) := Lib.hid (by rw [← hq2]; simp [outsOkN, hA])
                  clear hq2 hd hf
                  go_wp2_with fail
                  refine (isBefore_any x j _ hwf true (by symm; simpa using hA)).mono ?_
                  rintro e w2 ⟨rfl, rfl⟩
                  go_wp2
                  exact ⟨⟨m + 1, by omega, by go_num, hR4, hbr2⟩, by simp [intOf]; omega⟩
                · obtain rfl : R = false := by rw [← hq2]; simp [outsOkN]; intro h1 h2; exact absurd ⟨h1, h2⟩ hA
                  clear hq2 hd hf
                  go_wp2_with fail
                  refine (isBefore_any x j _ hwf false (by symm; simpa using hA)).mono ?_
                  rintro e w2 ⟨rfl, rfl⟩
                  have T2 := kTrans ka hbr2
                  go_wp2
                  go_ret
                  exact ⟨rfl, T2⟩
              · obtain rfl : R = true := by rw [← hf.out, List.drop_of_length_le (by rw [Hq.out]; omega)]; rfl
                have T2 := kTrans ka hbr2
                clear hf
                go_wp2
                go_ret
                exact ⟨rfl, T2⟩
      · obtain rfl : R = false := by rw [hR]; unfold netOk; rw [decide_eq_false (show ¬ (1 ≤ p.length ∧ p.length ≤ 8) by omega)]; simp
        clear hR h h8 h9
        go_enter Tryd.func20, Tryd.ntmps20
        go_wp2_with fail
        refine (isInputs_any ni _ true (by symm; simpa using c0)).mono ?_
        rintro e w1 ⟨rfl, rfl⟩
        go_wp2_with fail
        refine (nCount_any (l.length : Int) 80 _ true (by symm; simpa using c1)).mono ?_
        rintro e w1 ⟨rfl, rfl⟩
        go_wp2_with fail
        refine (nCount_any (p.length : Int) 8 _ false (by symm; simpa using c2)).mono ?_
        rintro e w1 ⟨rfl, rfl⟩
        go_wp2
        go_ret
        exact ⟨rfl, ka⟩
    · obtain rfl : R = false := by rw [hR]; unfold netOk; rw [decide_eq_false (show ¬ (1 ≤ l.length ∧ l.length ≤ 80) by omega)]; simp
      clear hR h h8 h9
      go_enter Tryd.func20, Tryd.ntmps20
      go_wp2_with fail
      refine (isInputs_any ni _ true (by symm; simpa using c0)).mono ?_
      rintro e w1 ⟨rfl, rfl⟩
      go_wp2_with fail
      refine (nCount_any (l.length : Int) 80 _ false (by symm; simpa using c1)).mono ?_
      rintro e w1 ⟨rfl, rfl⟩
      go_wp2
      go_ret
      exact ⟨rfl, ka⟩
  · obtain rfl : R = false := by rw [hR]; unfold netOk; rw [decide_eq_false c0]; simp
    clear hR h h8 h9
    go_enter Tryd.func20, Tryd.ntmps20
    go_wp2_with fail
    refine (isInputs_any ni _ false (by symm; simpa using c0)).mono ?_
    rintro e w1 ⟨rfl, rfl⟩
    go_wp2
    go_ret
    exact ⟨rfl, ka⟩
end Go.Proofs.YtlbnhdnmcnfgdaaDoor
