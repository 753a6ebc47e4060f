/- Several texts in one: Tz, Df, Dfs, Stb. -/
import Derived.Test.YthohngkdfhpieaaGreatDoorG12
import Derived.Test.YthohngkdfhpieaaGreatDoorG2
import Derived.Shelf.Spec.TrailingZeros
import Derived.Test.YthohngkdfhpieaaGreatDoorG11
/- The least row in which tables differ: TrailingZeros64, rowApart, l03Least. -/
namespace Go.Proofs.YthohngkdfhpieaaGreatDoor
open Go.ChangeShapes Go.WideShapes Go.ChangeAt Go.RowKit Go.Joins Go.Deep
set_option linter.unusedVariables false
set_option linter.unusedSimpArgs false

/-- the table of TrailingZeros64 in its variable -/
def TabB (g : Nat) (w : World) : Prop := (∀ j, j < 64 → w.cell? ⟨g, j, none⟩ = some (.int .u8 (Lib.deBruijn64tab.getD j 0))) ∧ g < w.heap.size
theorem TabB.below {g : Nat} {w w' : World} (h : TabB g w) (b : Below w.heap.size w w') : TabB g w' :=
  ⟨fun j hj => (b.cell (p := ⟨g, j, none⟩) h.2).trans (h.1 j hj), Nat.lt_of_lt_of_le h.2 b.size⟩
theorem TabB.kept {g lo hi : Nat} {w w' : World} (h : TabB g w) (k : KeptOut lo hi w w') (h0 : g < lo) : TabB g w' :=
  ⟨fun j hj => (k.cell h.2 (.inl h0)).trans (h.1 j hj), Nat.lt_of_lt_of_le h.2 k.size⟩
set_option maxHeartbeats 1000000 in
theorem tz_core (x k idx : Nat) (w : World) (hx0 : ((x : Int) == 0) = false)
    (key : IntKind.u64.wrap (Go.bits BinOp.and IntKind.u64 (x : Int) (IntKind.u64.wrap (-(x : Int))) * 285870213051353865) / 288230376151711744 = (idx : Int))
    (hi : idx < 64) (hk : k < 64) (hcell : w.cell? ⟨1, idx, none⟩ = some (.int .u8 k)) :
    Calls Tryz.prog 95 #[.int .u64 x] w fun e w' => e = .returned (.int .i64 k) ∧ w = w' := by
  go_enter Tryz.func95, Tryz.ntmps95
  go_wp2_with (simp only [key])
  go_ret
  exact ⟨rfl, rfl⟩
theorem tz64_any (x : Nat) (hx : x < 18446744073709551616) (h0 : x ≠ 0) (w : World) (hT : TabB 1 w) :
    Calls Tryz.prog 95 #[.int .u64 x] w fun e w' => e = .returned (.int .i64 (Lib.ctz 64 x)) ∧ w = w' := by
  obtain ⟨hlow, hk⟩ := Lib.lowest_bit 64 x h0 hx
  obtain ⟨hi, htab⟩ := Lib.deBruijn64_at _ hk
  have hcell := hT.1 _ hi
  rw [htab] at hcell
  exact tz_core x _ _ w (by simp; omega) (tz64_key x _ hx h0 hlow) hi hk hcell

/-- all bits in which two lists of tables differ -/
def apartA : List Int → List Int → Int → Int
  | x :: l, y :: m, a => apartA l m (Go.bits .or .u64 a (Go.bits .xor .u64 x y))
  | _, _, a => a
theorem apartA_wf : ∀ (l m : List Int) (a : Int), (Lit.int .u64 a).wf = true → (Lit.int .u64 (apartA l m a)).wf = true
  | x :: l, y :: m, a, h => apartA_wf l m _ (wf_bits _ _ _ _)
  | [], _, a, h => by unfold apartA; exact h
  | _ :: _, [], a, h => by unfold apartA; exact h
theorem u64_nat {a : Int} (h : (Lit.int .u64 a).wf = true) : ∃ x : Nat, a = (x : Int) ∧ x < 18446744073709551616 := by
  have := bounds_u64 h
  exact ⟨a.toNat, by omega, by omega⟩
/-- the least row in which they do, and a code -/
def leastQ (x : Nat) : Int × Int := if x = 0 then (0, 6) else ((Lib.ctz 64 x : Nat), 0)
theorem pair_LQ {a b c d : Int} (h : (a, b) = (c, d)) : a = c ∧ b = d := by injection h with h1 h2; exact ⟨h1, h2⟩
theorem ctz_parts {x : Nat} (h0 : x ≠ 0) (hx : x < 18446744073709551616) : ∃ m, x = 2 ^ Lib.ctz 64 x * (2 * m + 1) ∧ Lib.ctz 64 x < 64 := by
  obtain ⟨m, hm, hk⟩ := Lib.ctzFrom_spec 64 x (by omega) hx
  have e : Lib.ctz 64 x = Lib.ctzFrom 64 x := by simp [Lib.ctz, h0]
  rw [e]
  exact ⟨m, hm, hk⟩
theorem bit_below {x t m k : Nat} (h : x = 2 ^ t * (2 * m + 1)) (hk : k < t) : x / 2 ^ k % 2 = 0 := by
  have e : 2 ^ t = 2 ^ k * (2 * 2 ^ (t - k - 1)) := by
    rw [← Nat.pow_succ', ← Nat.pow_add]
    congr 1
    omega
  rw [h, e, Nat.mul_assoc, Nat.mul_div_cancel_left _ (Nat.pow_pos (by decide)), Nat.mul_assoc]
  exact Nat.mul_mod_right _ _
theorem bit_at {x t m : Nat} (h : x = 2 ^ t * (2 * m + 1)) : x / 2 ^ t % 2 = 1 := by
  rw [h, Nat.mul_div_cancel_left _ (Nat.pow_pos (by decide))]
  omega
theorem and_one_nat {x k : Nat} (hx : x < 18446744073709551616) : Go.bits .and .u64 ((x : Int) / 2 ^ k) 1 = ((x / 2 ^ k % 2 : Nat) : Int) := by
  have e : (x : Int) / 2 ^ k = ((x / 2 ^ k : Nat) : Int) := by push_cast; rfl
  have h := bits_and_u64_nat (x / 2 ^ k) 1 (Nat.lt_of_le_of_lt (Nat.div_le_self _ _) hx) (by decide)
  rw [Nat.and_one_is_mod] at h
  rw [e]
  exact h
set_option maxRecDepth 100000 in
set_option maxHeartbeats 4000000 in
theorem rowApart_any (b1 o1 b2 o2 n c1 c2 : Nat) (l1 l2 : List Int) (w : World) (hn1 : l1.length = n) (hn2 : l2.length = n) (h1 : UssAt w b1 o1 l1) (h2 : UssAt w b2 o2 l2) (hb1 : b1 < w.heap.size) (hb2 : b2 < w.heap.size) (hmax : n ≤ 1048576) (hc1 : n ≤ c1) (hc2 : n ≤ c2) (hT : TabB 1 w)
    (x : Nat) (hx : apartA l1 l2 0 = (x : Int)) (hx64 : x < 18446744073709551616) (E C : Int) (hQ : leastQ x = (E, C)) :
    Calls Tryz.prog 51 #[.slice (some ⟨b1, o1, none⟩) n c1, .slice (some ⟨b2, o2, none⟩) n c2] w fun e w' => e = .returned (.tuple #[.int .i64 E, .int .i64 C]) ∧ Below w.heap.size w w' := by
  have Hn1 := Lib.hid hn1
  have Hn2 := Lib.hid hn2
  have HT := Lib.hid hT
  obtain ⟨t, ht⟩ : ∃ t, Lib.ctz 64 x = t := ⟨_, rfl⟩
  have HTT := Lib.hid ht
  have HQ : Hid ((if x = 0 then ((0 : Int), (6 : Int)) else (((t : Nat) : Int), (0 : Int))) = (E, C)) := Lib.hid (by rw [← ht]; exact hQ)
  have HX : Hid (apartA (l1.drop 0) (l2.drop 0) 0 = (x : Int)) := Lib.hid hx
  clear hn1 hn2 hT hQ hx ht
  go_enter Tryz.func51, Tryz.ntmps51
  go_wp2
  go_loopw [6, 11] (fun a i wr => ∃ (k : Nat) (s : Int), k ≤ n ∧ i = .int .i64 k ∧ a = .int .u64 s ∧ Hid (apartA (l1.drop k) (l2.drop k) s = (x : Int)) ∧ w = wr) (fun _ i _ => n - (intOf i).toNat)
  case atStart => exact ⟨0, 0, by omega, rfl, rfl, HX, rfl⟩
  case round =>
    clear HX
    obtain ⟨k, s, hk, rfl, rfl, hf, rfl⟩ := hrel
    by_cases hlt : k < n
    · have hlk1 : k < l1.length := by rw [Hn1.out]; exact hlt
      have hlk2 : k < l2.length := by rw [Hn2.out]; exact hlt
      have d1 := h1 k hlk1
      have d2 := h2 k hlk2
      have hq := hf.out
      rw [List.drop_eq_getElem_cons hlk1, List.drop_eq_getElem_cons hlk2] at hq
      unfold apartA at hq
      generalize l1[k] = u at d1 hq
      generalize l2[k] = v at d2 hq
      obtain ⟨z, hz⟩ : ∃ z, Go.bits .xor .u64 u v = z := ⟨_, rfl⟩
      rw [hz] at hq
      obtain ⟨y, hy⟩ : ∃ y, Go.bits .or .u64 s z = y := ⟨_, rfl⟩
      rw [hy] at hq
      have HF := Lib.hid hq
      clear hf hq h1 h2
      go_wp2
      exact ⟨⟨k + 1, y, by omega, by go_num, by try (first | rfl | simp [hz, hy]), HF, trivial⟩, by simp [intOf]; omega⟩
    · obtain rfl : k = n := by omega
      obtain rfl : s = (x : Int) := by rw [← hf.out, List.drop_of_length_le (by rw [Hn1.out]; exact Nat.le_refl _)]; rfl
      clear hf h1 h2
      by_cases h0 : x = 0
      · obtain ⟨rfl, rfl⟩ := pair_LQ (show ((0 : Int), (6 : Int)) = (E, C) by rw [← HQ.out, if_pos h0])
        subst h0
        clear HQ
        go_wp2
        exact bodyPost_ret (v := .tuple #[.int .i64 0, .int .i64 6]) (by simp [results, Tryz.results51, go_sem]) rfl ⟨rfl, by repeat (first | with_reducible exact Below.refl _ _ | (with_reducible refine kSet ?_ ?hB _; case hB => (simp; try omega)) | with_reducible refine kAlloc ?_ _ | with_reducible refine Below.drew ?_ | with_reducible refine kDrewN ?_ _ | with_reducible refine kTrans ?_ (by assumption))⟩
      · obtain ⟨rfl, rfl⟩ := pair_LQ (show (((t : Nat) : Int), (0 : Int)) = (E, C) by rw [← HQ.out, if_neg h0])
        have h0' : ((x : Int) == 0) = false := by simpa using h0
        have HC := Lib.hid (tz64_any x hx64 h0 w HT.out)
        rw [HTT.out] at HC
        clear HQ HTT
        go_wp2_with fail
        refine HC.out.mono ?_
        rintro e w1 ⟨rfl, rfl⟩
        go_wp2
        exact bodyPost_ret (v := .tuple #[.int .i64 t, .int .i64 0]) (by simp [results, Tryz.results51, go_sem]) rfl ⟨rfl, by repeat (first | with_reducible exact Below.refl _ _ | (with_reducible refine kSet ?_ ?hB _; case hB => (simp; try omega)) | with_reducible refine kAlloc ?_ _ | with_reducible refine Below.drew ?_ | with_reducible refine kDrewN ?_ _ | with_reducible refine kTrans ?_ (by assumption))⟩
set_option maxRecDepth 100000 in
set_option maxHeartbeats 4000000 in
theorem l03Least_any (b1 o1 b2 o2 n c1 c2 : Nat) (l1 l2 : List Int) (w : World) (hn1 : l1.length = n) (hn2 : l2.length = n) (h1 : UssAt w b1 o1 l1) (h2 : UssAt w b2 o2 l2) (hb1 : b1 < w.heap.size) (hb2 : b2 < w.heap.size) (hmax : n ≤ 1048576) (hc1 : n ≤ c1) (hc2 : n ≤ c2)
    (x : Nat) (hx : apartA l1 l2 0 = (x : Int)) (hx64 : x < 18446744073709551616) (E C : Int) (hQ : leastQ x = (E, C)) :
    Calls Tryz.prog 49 #[.slice (some ⟨b1, o1, none⟩) n c1, .slice (some ⟨b2, o2, none⟩) n c2] w fun e w' => e = .returned (.tuple #[.int .i64 E, .int .i64 C]) ∧ Below w.heap.size w w' := by
  have Hn1 := Lib.hid hn1
  have Hn2 := Lib.hid hn2
  obtain ⟨t, ht⟩ : ∃ t, Lib.ctz 64 x = t := ⟨_, rfl⟩
  have HTT := Lib.hid ht
  have HQ : Hid ((if x = 0 then ((0 : Int), (6 : Int)) else (((t : Nat) : Int), (0 : Int))) = (E, C)) := Lib.hid (by rw [← ht]; exact hQ)
  have HX : Hid (apartA (l1.drop 0) (l2.drop 0) 0 = (x : Int)) := Lib.hid hx
  clear hn1 hn2 hQ hx ht
  go_enter Tryz.func49, Tryz.ntmps49
  go_wp2
  go_loopw [6, 7] (fun a i wr => ∃ (k : Nat) (s : Int), k ≤ n ∧ i = .int .i64 k ∧ a = .int .u64 s ∧ Hid (apartA (l1.drop k) (l2.drop k) s = (x : Int)) ∧ Below w.heap.size w wr) (fun _ i _ => n - (intOf i).toNat)
  case atStart => exact ⟨0, 0, by omega, rfl, rfl, HX, Below.refl _ _⟩
  case round =>
    clear HX
    obtain ⟨k, s, hk, rfl, rfl, hf, hbr⟩ := hrel
    by_cases hlt : k < n
    · have hlk1 : k < l1.length := by rw [Hn1.out]; exact hlt
      have hlk2 : k < l2.length := by rw [Hn2.out]; exact hlt
      have d1 := (h1.below hbr hb1) k hlk1
      have d2 := (h2.below hbr hb2) k hlk2
      have hq := hf.out
      rw [List.drop_eq_getElem_cons hlk1, List.drop_eq_getElem_cons hlk2] at hq
      unfold apartA at hq
      generalize l1[k] = u at d1 hq
      generalize l2[k] = v at d2 hq
      have HF := Lib.hid hq
      clear hf hq h1 h2
      go_wp2
      go_quiet (fail)
      go_wp2
      exact ⟨⟨k + 1, _, by omega, by go_num, rfl, HF, kDrewN hbr _⟩, by simp [intOf]; omega⟩
    · obtain rfl : k = n := by omega
      obtain rfl : s = (x : Int) := by rw [← hf.out, List.drop_of_length_le (by rw [Hn1.out]; exact Nat.le_refl _)]; rfl
      clear hf h1 h2
      by_cases h0 : x = 0
      · obtain ⟨rfl, rfl⟩ := pair_LQ (show ((0 : Int), (6 : Int)) = (E, C) by rw [← HQ.out, if_pos h0])
        subst h0
        clear HQ
        go_wp2
        exact bodyPost_ret (v := .tuple #[.int .i64 0, .int .i64 6]) (by simp [results, Tryz.results49, go_sem]) rfl ⟨rfl, hbr⟩
      · obtain ⟨m, hm, ht64⟩ := ctz_parts h0 hx64
        obtain ⟨rfl, rfl⟩ := pair_LQ (show (((t : Nat) : Int), (0 : Int)) = (E, C) by rw [← HQ.out, if_neg h0])
        have h0' : ((x : Int) == 0) = false := by simpa using h0
        rw [HTT.out] at hm ht64
        have HM := Lib.hid hm
        clear HQ HTT hm h0
        go_wp2
        go_loopw [8] (fun i wr => ∃ k : Nat, k ≤ t ∧ i = .int .i64 k ∧ Below w.heap.size w wr) (fun i _ => t - (intOf i).toNat)
        case atStart => exact ⟨0, by omega, rfl, hbr⟩
        case round =>
          clear hbr
          obtain ⟨k, hk, rfl, hbr⟩ := hrel
          have hi0 : (0 : Int) ≤ (k : Int) := by omega
          have hi1 : (k : Int) ≤ 64 := by omega
          have e : (k : Int).toNat = k := by simp
          have hand := and_one_nat (x := x) (k := k) hx64
          by_cases hlt : k < t
          · rw [bit_below HM.out hlt] at hand
            go_wp2
            exact ⟨⟨k + 1, by omega, by go_num, hbr⟩, by simp [intOf]; omega⟩
          · obtain rfl : k = t := by omega
            rw [bit_at HM.out] at hand
            go_wp2
            exact bodyPost_ret (v := .tuple #[.int .i64 k, .int .i64 0]) (by simp [results, Tryz.results49, go_sem]) rfl ⟨rfl, hbr⟩
end Go.Proofs.YthohngkdfhpieaaGreatDoor

/- DifferAt: both sides. -/
namespace Go.Proofs.YthohngkdfhpieaaGreatDoor
open Go.ChangeShapes Go.WideShapes Go.ChangeAt Go.RowKit Go.Shelf Go.Joins Go.Deep
set_option linter.unusedVariables false
set_option linter.unusedSimpArgs false

/-- both variables hold what they are laid with -/
def StayTab (w : World) : Prop := StayAt w ∧ TabB 1 w
theorem StayTab.below {w w' : World} (h : StayTab w) (b : Below w.heap.size w w') : StayTab w' := ⟨h.1.below b, h.2.below b⟩
theorem StayTab.kept {lo hi : Nat} {w w' : World} (h : StayTab w) (g : KeptOut lo hi w w') (h0 : 1 < lo) : StayTab w' := ⟨h.1.kept g (by omega), h.2.kept g h0⟩
def dfQ (M1 M2 : Bool) (n1 n2 r1 r2 x : Nat) : Int × Int := if M1 = true ∧ M2 = true then (if n1 = n2 ∧ r1 = r2 then leastQ x else (0, 4)) else (0, 1)
def onlyN (Q : Exit → Act → World → Prop) (e : Exit) (a : Act) (w : World) : Prop := e = .normal ∧ Q .normal a w
theorem regionW_of_H {id : Nat} {P : Program} {ops : Array Oper} {Q : Exit → Act → World → Prop} {a : Act} {w : World} (S : World → Prop) (hm : P.follows .mixedOrders = true)
    (hS : S w.drew) (h : S w.drew → wpAnyH P .any ops (onlyN Q) S ops.size (Array.replicate ops.size false) a w.drew) : (Code.region id ops true).wp P Q a w :=
  wp_mono (wp_region_any hm (wpAny_of_held _ _ _ _ (h hS))) (fun e a w hq => by obtain ⟨rfl, hq⟩ := hq; exact hq)
theorem slUs_some {w : World} {T : List Int} {va : Option Addr} {vc N lo hi : Nat} (h : SlWUs lo hi w T (.slice va N vc)) (h0 : 0 < T.length) : ∃ g o, va = some ⟨g, o, none⟩ ∧ UssAt w g o T ∧ g < w.heap.size ∧ T.length ≤ vc ∧ N = T.length := by
  generalize hv : Value.slice va N vc = v at h
  cases h with
  | empty _ _ h => rw [h] at h0; simp at h0
  | mk g o c h1 h2 h3 h4 h5 h6 => cases hv; exact ⟨_, _, rfl, h1, h4, h6, rfl⟩
theorem ne_facts {a b : Nat} (h : a ≠ b) : ((a : Int) != (b : Int)) = true ∧ ((a : Int) == (b : Int)) = false := ⟨by simpa using (fun e => h (by omega)), by simpa using (fun e => h (by omega))⟩
set_option maxRecDepth 100000 in
set_option maxHeartbeats 16000000 in
theorem implDifferAt_any (w : World) (b k q m n r : Nat) (wd hi : Int) (l : List Pc) (p : List Po) (c : List Cl) (hp : PcsAt w b 0 l) (hg : PosAt w k 0 p) (hj : ClsAt w q 0 c) (zb : b < w.heap.size) (zk : k < w.heap.size) (zq : q < w.heap.size)
    (hm : l.length = m) (hn : p.length = n) (hr : c.length = r) (h8 : All8 l) (hw : PosWf p) (bw : i8 wd) (bh : i8 hi) (mx0 : m ≤ 1048576) (mx1 : n ≤ 1048576) (mx2 : r ≤ 1048576) (M : Bool) (hM : M = machOk wd hi l p c) (F : Nat → List Fl) (hF : M = true → AnsAt wd hi l p c n F) (N : Nat) (hN : 2 ^ n = N)
    (bz kz qz mz nz rz : Nat) (wdz hiz : Int) (lz : List Pc) (pz : List Po) (cz : List Cl) (hpz : PcsAt w bz 0 lz) (hgz : PosAt w kz 0 pz) (hjz : ClsAt w qz 0 cz) (zbz : bz < w.heap.size) (zkz : kz < w.heap.size) (zqz : qz < w.heap.size)
    (hmz : lz.length = mz) (hnz : pz.length = nz) (hrz : cz.length = rz) (h8z : All8 lz) (hwz : PosWf pz) (bwz : i8 wdz) (bhz : i8 hiz) (mx0z : mz ≤ 1048576) (mx1z : nz ≤ 1048576) (mx2z : rz ≤ 1048576) (Mz : Bool) (hMz : Mz = machOk wdz hiz lz pz cz) (Fz : Nat → List Fl) (hFz : Mz = true → AnsAt wdz hiz lz pz cz nz Fz) (Nz : Nat) (hNz : 2 ^ nz = Nz) (hst : StayTab w) (x : Nat) (hx : apartA (tabsM (ansL l c F N) r N) (tabsM (ansL lz cz Fz Nz) rz Nz) 0 = (x : Int)) (hx64 : x < 18446744073709551616) (E C : Int) (hQ : dfQ M Mz n nz r rz x = (E, C)) :
    Calls Tryz.prog 18 #[.agg #[.int .i8 wd, .int .i8 hi, .slice (some ⟨b, 0, none⟩) m m, .slice (some ⟨k, 0, none⟩) n n, .slice (some ⟨q, 0, none⟩) r r], .agg #[.int .i8 wdz, .int .i8 hiz, .slice (some ⟨bz, 0, none⟩) mz mz, .slice (some ⟨kz, 0, none⟩) nz nz, .slice (some ⟨qz, 0, none⟩) rz rz]] w (fun e w' => e = .returned (.tuple #[.int .i64 E, .int .i64 C]) ∧ Below w.heap.size w w') := by
  obtain ⟨W0, hW0⟩ : ∃ W0, (w.alloc (.cells #[.int .i8 wd, .int .i8 hi, .slice (some ⟨b, 0, none⟩) m m, .slice (some ⟨k, 0, none⟩) n n, .slice (some ⟨q, 0, none⟩) r r] 40)).alloc (.cells #[.int .i8 wdz, .int .i8 hiz, .slice (some ⟨bz, 0, none⟩) mz mz, .slice (some ⟨kz, 0, none⟩) nz nz, .slice (some ⟨qz, 0, none⟩) rz rz] 40) = W0 := ⟨_, rfl⟩
  have k0 : Below w.heap.size w W0 := by rw [← hW0]; exact kAlloc (kAlloc (Below.refl _ _) _) _
  have sz0 : W0.heap.size = w.heap.size + 1 + 1 := by rw [← hW0]; simp
  have bA : W0.heap[w.heap.size]? = some (.cells #[.int .i8 wd, .int .i8 hi, .slice (some ⟨b, 0, none⟩) m m, .slice (some ⟨k, 0, none⟩) n n, .slice (some ⟨q, 0, none⟩) r r] 40 (0, 0)) := by rw [← hW0]; exact (Below.heap_alloc _ _ _ (by simp)).trans (heap_alloc_new _ _)
  have bZ : W0.heap[w.heap.size + 1]? = some (.cells #[.int .i8 wdz, .int .i8 hiz, .slice (some ⟨bz, 0, none⟩) mz mz, .slice (some ⟨kz, 0, none⟩) nz nz, .slice (some ⟨qz, 0, none⟩) rz rz] 40 (0, 0)) := by
    rw [← hW0]
    have h := heap_alloc_new (w.alloc (.cells #[.int .i8 wd, .int .i8 hi, .slice (some ⟨b, 0, none⟩) m m, .slice (some ⟨k, 0, none⟩) n n, .slice (some ⟨q, 0, none⟩) r r] 40)) (.cells #[.int .i8 wdz, .int .i8 hiz, .slice (some ⟨bz, 0, none⟩) mz mz, .slice (some ⟨kz, 0, none⟩) nz nz, .slice (some ⟨qz, 0, none⟩) rz rz] 40)
    simpa only [World.size_alloc] using h
  have HV := Lib.hid (fun W (ka : Below w.heap.size w W) => by have h := deviceOf_any b k q wd hi l p c W (hp.below ka zb) (hg.below ka zk) (hj.below ka zq) (Nat.lt_of_lt_of_le zb ka.size) (Nat.lt_of_lt_of_le zk ka.size) (Nat.lt_of_lt_of_le zq ka.size) h8 hw (by omega) (by omega) (by omega) M hM; rw [hm, hn, hr] at h; exact h)
  have HVz := Lib.hid (fun W (ka : Below w.heap.size w W) => by have h := deviceOf_any bz kz qz wdz hiz lz pz cz W (hpz.below ka zbz) (hgz.below ka zkz) (hjz.below ka zqz) (Nat.lt_of_lt_of_le zbz ka.size) (Nat.lt_of_lt_of_le zkz ka.size) (Nat.lt_of_lt_of_le zqz ka.size) h8z hwz (by omega) (by omega) (by omega) Mz hMz; rw [hmz, hnz, hrz] at h; exact h)
  have HP := Lib.hid (fun W (h : Below w.heap.size w W) => hp.below h zb)
  have HG := Lib.hid (fun W (h : Below w.heap.size w W) => hg.below h zk)
  have HC := Lib.hid (fun W (h : Below w.heap.size w W) => hj.below h zq)
  have Hm := Lib.hid hm
  have Hn := Lib.hid hn
  have Hr := Lib.hid hr
  have HM := Lib.hid hM
  have HFF := Lib.hid hF
  have HNN := Lib.hid hN
  have HPz := Lib.hid (fun W (h : Below w.heap.size w W) => hpz.below h zbz)
  have HGz := Lib.hid (fun W (h : Below w.heap.size w W) => hgz.below h zkz)
  have HCz := Lib.hid (fun W (h : Below w.heap.size w W) => hjz.below h zqz)
  have Hmz := Lib.hid hmz
  have Hnz := Lib.hid hnz
  have Hrz := Lib.hid hrz
  have HMz := Lib.hid hMz
  have HFFz := Lib.hid hFz
  have HNNz := Lib.hid hNz
  have HS := Lib.hid (fun W (h : Below w.heap.size w W) => hst.below h)
  have HX := Lib.hid hx
  have HQ := Lib.hid hQ
  have HW0 := Lib.hid hW0
  have HK0 := Lib.hid k0
  have HBA := Lib.hid (fun W (h : Below W0.heap.size W0 W) => blk_below bA h)
  have HBZ := Lib.hid (fun W (h : Below W0.heap.size W0 W) => blk_below bZ h)
  have y0 := bA
  have y1 := bZ
  have ca0 : W0.cell? ⟨w.heap.size, 0, none⟩ = some (.int .i8 wd) := cell_of_row _ _ 0 _ _ _ (y0)
  have ca1 : W0.cell? ⟨w.heap.size, 1, none⟩ = some (.int .i8 hi) := cell_of_row _ _ 1 _ _ _ (y0)
  have ca2 : W0.cell? ⟨w.heap.size, 2, none⟩ = some (.slice (some ⟨b, 0, none⟩) m m) := cell_of_row _ _ 2 _ _ _ (y0)
  have ca3 : W0.cell? ⟨w.heap.size, 3, none⟩ = some (.slice (some ⟨k, 0, none⟩) n n) := cell_of_row _ _ 3 _ _ _ (y0)
  have ca4 : W0.cell? ⟨w.heap.size, 4, none⟩ = some (.slice (some ⟨q, 0, none⟩) r r) := cell_of_row _ _ 4 _ _ _ (y0)
  have cz0 : W0.cell? ⟨w.heap.size + 1, 0, none⟩ = some (.int .i8 wdz) := cell_of_row _ _ 0 _ _ _ (y1)
  have cz1 : W0.cell? ⟨w.heap.size + 1, 1, none⟩ = some (.int .i8 hiz) := cell_of_row _ _ 1 _ _ _ (y1)
  have cz2 : W0.cell? ⟨w.heap.size + 1, 2, none⟩ = some (.slice (some ⟨bz, 0, none⟩) mz mz) := cell_of_row _ _ 2 _ _ _ (y1)
  have cz3 : W0.cell? ⟨w.heap.size + 1, 3, none⟩ = some (.slice (some ⟨kz, 0, none⟩) nz nz) := cell_of_row _ _ 3 _ _ _ (y1)
  have cz4 : W0.cell? ⟨w.heap.size + 1, 4, none⟩ = some (.slice (some ⟨qz, 0, none⟩) rz rz) := cell_of_row _ _ 4 _ _ _ (y1)
  clear hp hg hj hm hn hr h8 hw hM hF hN hpz hgz hjz hmz hnz hrz h8z hwz hMz hFz hNz hst hx hQ y0 y1 bA bZ
  clear hW0
  go_enter Tryz.func18, Tryz.ntmps18
  go_upto_region 1 with fail
  try rw [HW0.out]
  clear HW0
  go_wp2_with fail
  refine (HV.out W0 HK0.out).mono ?_
  rintro e w1 ⟨h1, h1', hb1⟩
  have kw1 := hb1
  clear ca0 ca1 ca2 ca3 ca4
  have bZ1 := HBZ.out w1 hb1
  clear cz0 cz1 cz2 cz3 cz4
  have cz0 : w1.cell? ⟨w.heap.size + 1, 0, none⟩ = some (.int .i8 wdz) := cell_of_row _ _ 0 _ _ _ (bZ1)
  have cz1 : w1.cell? ⟨w.heap.size + 1, 1, none⟩ = some (.int .i8 hiz) := cell_of_row _ _ 1 _ _ _ (bZ1)
  have cz2 : w1.cell? ⟨w.heap.size + 1, 2, none⟩ = some (.slice (some ⟨bz, 0, none⟩) mz mz) := cell_of_row _ _ 2 _ _ _ (bZ1)
  have cz3 : w1.cell? ⟨w.heap.size + 1, 3, none⟩ = some (.slice (some ⟨kz, 0, none⟩) nz nz) := cell_of_row _ _ 3 _ _ _ (bZ1)
  have cz4 : w1.cell? ⟨w.heap.size + 1, 4, none⟩ = some (.slice (some ⟨qz, 0, none⟩) rz rz) := cell_of_row _ _ 4 _ _ _ (bZ1)
  cases M with
  | false =>
    obtain rfl := h1' rfl
    obtain ⟨rfl, rfl⟩ := pair_LQ (show ((0 : Int), (1 : Int)) = (E, C) by rw [← HQ.out]; unfold dfQ; rw [if_neg (by simp)])
    clear h1 h1' HQ HV HX HS
    obtain ⟨W1, hW1⟩ : ∃ W1, w1.alloc (.cells #[.int .i8 0, .int .i8 0, .map none, .int .i8 0, .int .i8 0, .slice none 0 0, .slice none 0 0, .slice none 0 0] 89) = W1 := ⟨_, rfl⟩
    have kW1 : Below w1.heap.size w1 W1 := by rw [← hW1]; exact kAlloc (Below.refl _ _) _
    have HT1 := Lib.hid (kTrans (kTrans HK0.out hb1) kW1)
    have bZ2 := blk_below bZ1 kW1
    clear cz0 cz1 cz2 cz3 cz4
    have cz0 : W1.cell? ⟨w.heap.size + 1, 0, none⟩ = some (.int .i8 wdz) := cell_of_row _ _ 0 _ _ _ (bZ2)
    have cz1 : W1.cell? ⟨w.heap.size + 1, 1, none⟩ = some (.int .i8 hiz) := cell_of_row _ _ 1 _ _ _ (bZ2)
    have cz2 : W1.cell? ⟨w.heap.size + 1, 2, none⟩ = some (.slice (some ⟨bz, 0, none⟩) mz mz) := cell_of_row _ _ 2 _ _ _ (bZ2)
    have cz3 : W1.cell? ⟨w.heap.size + 1, 3, none⟩ = some (.slice (some ⟨kz, 0, none⟩) nz nz) := cell_of_row _ _ 3 _ _ _ (bZ2)
    have cz4 : W1.cell? ⟨w.heap.size + 1, 4, none⟩ = some (.slice (some ⟨qz, 0, none⟩) rz rz) := cell_of_row _ _ 4 _ _ _ (bZ2)
    have HW1 := Lib.hid hW1
    clear hW1
    go_upto_region 2 with fail
    try rw [HW1.out]
    clear HW1 bZ1 bZ2 hb1 kw1
    go_wp2_with fail
    refine (HVz.out W1 HT1.out).mono ?_
    rintro e w2 ⟨h2, h2', hb2⟩
    have T2 := kTrans HT1.out hb2
    clear cz0 cz1 cz2 cz3 cz4 HVz hb2
    cases Mz with
    | false =>
      obtain rfl := h2' rfl
      clear h2 h2'
      go_wp2
      exact bodyPost_ret (v := .tuple #[.int .i64 0, .int .i64 1]) (by simp [results, Tryz.results18, go_sem]) rfl ⟨rfl, by repeat (first | with_reducible exact Below.refl _ _ | (with_reducible refine kSet ?_ ?hB _; case hB => (simp; try omega)) | with_reducible refine kAlloc ?_ _ | with_reducible refine Below.drew ?_ | with_reducible refine kDrewN ?_ _ | with_reducible refine kTrans ?_ (by assumption))⟩
    | true =>
      obtain ⟨Bz, rfl, _⟩ := h2 rfl
      clear h2 h2'
      go_wp2
      exact bodyPost_ret (v := .tuple #[.int .i64 0, .int .i64 1]) (by simp [results, Tryz.results18, go_sem]) rfl ⟨rfl, by repeat (first | with_reducible exact Below.refl _ _ | (with_reducible refine kSet ?_ ?hB _; case hB => (simp; try omega)) | with_reducible refine kAlloc ?_ _ | with_reducible refine Below.drew ?_ | with_reducible refine kDrewN ?_ _ | with_reducible refine kTrans ?_ (by assumption))⟩
  | true =>
    obtain ⟨B, rfl, hmpB⟩ := h1 rfl
    have hmp := machOk_parts HM.out.symm
    rw [Hm.out, Hn.out, Hr.out] at hmp
    have h6 := hmp.2.1.2.1.2
    have hr8 := hmp.2.1.2.2.2
    have hr1 := hmp.2.1.2.2.1
    have h60 := hmp.2.1.1
    have Hf := Lib.hid (HFF.out rfl)
    clear hmp HFF
    clear h1 h1' HV
    obtain ⟨W1, hW1⟩ : ∃ W1, w1.alloc (.cells #[.int .i8 wd, .int .i8 hi, .map (some B), .int .i8 wd, .int .i8 hi, .slice (some ⟨b, 0, none⟩) m m, .slice (some ⟨k, 0, none⟩) n n, .slice (some ⟨q, 0, none⟩) r r] 89) = W1 := ⟨_, rfl⟩
    have kW1 : Below w1.heap.size w1 W1 := by rw [← hW1]; exact kAlloc (Below.refl _ _) _
    have sz1 : w1.heap.size < W1.heap.size := by rw [← hW1]; simp
    have bD1 : W1.heap[w1.heap.size]? = some (.cells #[.int .i8 wd, .int .i8 hi, .map (some B), .int .i8 wd, .int .i8 hi, .slice (some ⟨b, 0, none⟩) m m, .slice (some ⟨k, 0, none⟩) n n, .slice (some ⟨q, 0, none⟩) r r] 89 (0, 0)) := by rw [← hW1]; exact heap_alloc_new _ _
    have HB01 := Lib.hid (kTrans hb1 kW1)
    have HT1 := Lib.hid (kTrans HK0.out (kTrans hb1 kW1))
    have HMp := Lib.hid (hmpB.below kW1)
    have HT01 := Lib.hid (kTrans HK0.out hb1)
    have bZ2 := blk_below bZ1 kW1
    clear cz0 cz1 cz2 cz3 cz4
    have cz0 : W1.cell? ⟨w.heap.size + 1, 0, none⟩ = some (.int .i8 wdz) := cell_of_row _ _ 0 _ _ _ (bZ2)
    have cz1 : W1.cell? ⟨w.heap.size + 1, 1, none⟩ = some (.int .i8 hiz) := cell_of_row _ _ 1 _ _ _ (bZ2)
    have cz2 : W1.cell? ⟨w.heap.size + 1, 2, none⟩ = some (.slice (some ⟨bz, 0, none⟩) mz mz) := cell_of_row _ _ 2 _ _ _ (bZ2)
    have cz3 : W1.cell? ⟨w.heap.size + 1, 3, none⟩ = some (.slice (some ⟨kz, 0, none⟩) nz nz) := cell_of_row _ _ 3 _ _ _ (bZ2)
    have cz4 : W1.cell? ⟨w.heap.size + 1, 4, none⟩ = some (.slice (some ⟨qz, 0, none⟩) rz rz) := cell_of_row _ _ 4 _ _ _ (bZ2)
    have HW1 := Lib.hid hW1
    clear hW1
    go_upto_region 2 with fail
    try rw [HW1.out]
    clear HW1 bZ1 bZ2 hb1 kw1 hmpB
    go_wp2_with fail
    refine (HVz.out W1 HT1.out).mono ?_
    rintro e w2 ⟨h2, h2', hb2⟩
    have T2 := kTrans HT1.out hb2
    clear cz0 cz1 cz2 cz3 cz4 HVz
    cases Mz with
    | false =>
      obtain rfl := h2' rfl
      obtain ⟨rfl, rfl⟩ := pair_LQ (show ((0 : Int), (1 : Int)) = (E, C) by rw [← HQ.out]; unfold dfQ; rw [if_neg (by simp)])
      clear h2 h2' HQ HX
      go_wp2
      exact bodyPost_ret (v := .tuple #[.int .i64 0, .int .i64 1]) (by simp [results, Tryz.results18, go_sem]) rfl ⟨rfl, by repeat (first | with_reducible exact Below.refl _ _ | (with_reducible refine kSet ?_ ?hB _; case hB => (simp; try omega)) | with_reducible refine kAlloc ?_ _ | with_reducible refine Below.drew ?_ | with_reducible refine kDrewN ?_ _ | with_reducible refine kTrans ?_ (by assumption))⟩
    | true =>
      obtain ⟨Bz, rfl, hmpZ⟩ := h2 rfl
      have hmpz := machOk_parts HMz.out.symm
      rw [Hmz.out, Hnz.out, Hrz.out] at hmpz
      have h6z := hmpz.2.1.2.1.2
      have hr8z := hmpz.2.1.2.2.2
      have hr1z := hmpz.2.1.2.2.1
      have h60z := hmpz.2.1.1
      have Hfz := Lib.hid (HFFz.out rfl)
      clear hmpz HFFz
      clear h2 h2'
      obtain ⟨W2, hW2⟩ : ∃ W2, w2.alloc (.cells #[.int .i8 wdz, .int .i8 hiz, .map (some Bz), .int .i8 wdz, .int .i8 hiz, .slice (some ⟨bz, 0, none⟩) mz mz, .slice (some ⟨kz, 0, none⟩) nz nz, .slice (some ⟨qz, 0, none⟩) rz rz] 89) = W2 := ⟨_, rfl⟩
      have kW2 : Below w2.heap.size w2 W2 := by rw [← hW2]; exact kAlloc (Below.refl _ _) _
      have bD2 : W2.heap[w2.heap.size]? = some (.cells #[.int .i8 wdz, .int .i8 hiz, .map (some Bz), .int .i8 wdz, .int .i8 hiz, .slice (some ⟨bz, 0, none⟩) mz mz, .slice (some ⟨kz, 0, none⟩) nz nz, .slice (some ⟨qz, 0, none⟩) rz rz] 89 (0, 0)) := by rw [← hW2]; exact heap_alloc_new _ _
      have bD1' := blk_below bD1 (kTrans hb2 kW2)
      have HT2 := Lib.hid (kTrans T2 kW2)
      have HT12 := Lib.hid (kTrans HT1.out (kTrans hb2 kW2))
      have HMz := Lib.hid (hmpZ.below kW2)
      have HM1 := Lib.hid (HMp.out.below (kTrans hb2 kW2))
      have HB02 := kTrans HB01.out (kTrans hb2 kW2)
      have bA2 := HBA.out W2 HB02
      have bZ2 := HBZ.out W2 HB02
      have HD1 := Lib.hid (fun W (h : Below W2.heap.size W2 W) => (⟨HM1.out.below h, HP.out _ (kTrans HT2.out h), HG.out _ (kTrans HT2.out h), HC.out _ (kTrans HT2.out h), Nat.lt_of_lt_of_le zb (kTrans HT2.out h).size, Nat.lt_of_lt_of_le zk (kTrans HT2.out h).size, Nat.lt_of_lt_of_le zq (kTrans HT2.out h).size, (HS.out _ (kTrans HT2.out h)).1⟩ : DvAt W B b k q l p c))
      have HD2 := Lib.hid (fun W (h : Below W2.heap.size W2 W) => (⟨HMz.out.below h, HPz.out _ (kTrans HT2.out h), HGz.out _ (kTrans HT2.out h), HCz.out _ (kTrans HT2.out h), Nat.lt_of_lt_of_le zbz (kTrans HT2.out h).size, Nat.lt_of_lt_of_le zkz (kTrans HT2.out h).size, Nat.lt_of_lt_of_le zqz (kTrans HT2.out h).size, (HS.out _ (kTrans HT2.out h)).1⟩ : DvAt W Bz bz kz qz lz pz cz))
      have HBD1 := Lib.hid bD1'
      have HBD2 := Lib.hid bD2
      have ca0 : W2.cell? ⟨w.heap.size, 0, none⟩ = some (.int .i8 wd) := cell_of_row _ _ 0 _ _ _ (bA2)
      have ca1 : W2.cell? ⟨w.heap.size, 1, none⟩ = some (.int .i8 hi) := cell_of_row _ _ 1 _ _ _ (bA2)
      have ca2 : W2.cell? ⟨w.heap.size, 2, none⟩ = some (.slice (some ⟨b, 0, none⟩) m m) := cell_of_row _ _ 2 _ _ _ (bA2)
      have ca3 : W2.cell? ⟨w.heap.size, 3, none⟩ = some (.slice (some ⟨k, 0, none⟩) n n) := cell_of_row _ _ 3 _ _ _ (bA2)
      have ca4 : W2.cell? ⟨w.heap.size, 4, none⟩ = some (.slice (some ⟨q, 0, none⟩) r r) := cell_of_row _ _ 4 _ _ _ (bA2)
      have cz0 : W2.cell? ⟨w.heap.size + 1, 0, none⟩ = some (.int .i8 wdz) := cell_of_row _ _ 0 _ _ _ (bZ2)
      have cz1 : W2.cell? ⟨w.heap.size + 1, 1, none⟩ = some (.int .i8 hiz) := cell_of_row _ _ 1 _ _ _ (bZ2)
      have cz2 : W2.cell? ⟨w.heap.size + 1, 2, none⟩ = some (.slice (some ⟨bz, 0, none⟩) mz mz) := cell_of_row _ _ 2 _ _ _ (bZ2)
      have cz3 : W2.cell? ⟨w.heap.size + 1, 3, none⟩ = some (.slice (some ⟨kz, 0, none⟩) nz nz) := cell_of_row _ _ 3 _ _ _ (bZ2)
      have cz4 : W2.cell? ⟨w.heap.size + 1, 4, none⟩ = some (.slice (some ⟨qz, 0, none⟩) rz rz) := cell_of_row _ _ 4 _ _ _ (bZ2)
      clear bD1 bD1' bD2 hb2 kW2 hmpZ HB02 HB01 bA2 bZ2 HMp HMz HM1 HT12 HBA HBZ T2
      have HW2 := Lib.hid hW2
      clear hW2
      go_upto_region 3 with fail
      try rw [HW2.out]
      clear HW2
      by_cases hne : n = nz
      · by_cases hre : r = rz
        · subst hne hre
          have HQ2 := Lib.hid (show leastQ x = (E, C) by rw [← HQ.out]; unfold dfQ; rw [if_pos ⟨rfl, rfl⟩, if_pos ⟨rfl, rfl⟩])
          have HTA := Lib.hid (fun W (h : Below W2.heap.size W2 W) => mtables_any B b k q m n r wd hi l p c W (HD1.out _ h) Hm.out Hn.out Hr.out h6 hr8 F Hf.out N HNN.out)
          have HTZ := Lib.hid (fun W (h : Below W2.heap.size W2 W) => mtables_any Bz bz kz qz mz n r wdz hiz lz pz cz W (HD2.out _ h) Hmz.out Hnz.out Hrz.out h6z hr8z Fz Hfz.out Nz HNNz.out)
          obtain ⟨A1, hA1⟩ : ∃ A1, (tabsM (ansL l c F N) r N) = A1 := ⟨_, rfl⟩
          obtain ⟨A2, hA2⟩ : ∃ A2, (tabsM (ansL lz cz Fz Nz) r Nz) = A2 := ⟨_, rfl⟩
          have hl1 : A1.length = r := by rw [← hA1]; exact tabsM_length _ _ _
          have hl2 : A2.length = r := by rw [← hA2]; exact tabsM_length _ _ _
          rw [hA1] at HTA HX
          rw [hA2] at HTZ HX
          have HL1 := Lib.hid hl1
          have HL2 := Lib.hid hl2
          clear HQ hA1 hA2 hl1 hl2
          go_upto_region 7 with fail
          clear ca0 ca1 ca2 ca3 ca4 cz0 cz1 cz2 cz3 cz4
          refine regionW_of_H (fun W' => W'.heap[w1.heap.size]? = some (.cells #[.int .i8 wd, .int .i8 hi, .map (some B), .int .i8 wd, .int .i8 hi, .slice (some ⟨b, 0, none⟩) m m, .slice (some ⟨k, 0, none⟩) n n, .slice (some ⟨q, 0, none⟩) r r] 89 (0, 0)) ∧ W'.heap[w2.heap.size]? = some (.cells #[.int .i8 wdz, .int .i8 hiz, .map (some Bz), .int .i8 wdz, .int .i8 hiz, .slice (some ⟨bz, 0, none⟩) mz mz, .slice (some ⟨kz, 0, none⟩) n n, .slice (some ⟨qz, 0, none⟩) r r] 89 (0, 0))) (by kernel_rfl) ⟨HBD1.out, HBD2.out⟩ (fun hHeld => ?_)
          refine wpAnyH_take (i := 0) (v := .agg #[.int .i8 wd, .int .i8 hi, .map (some B), .int .i8 wd, .int .i8 hi, .slice (some ⟨b, 0, none⟩) m m, .slice (some ⟨k, 0, none⟩) n n, .slice (some ⟨q, 0, none⟩) r r]) rfl (by kernel_rfl) (by kernel_rfl) (by kernel_rfl) (fun _ _ _ h => absurd h.1 (by simp)) (Or.inl ⟨by rfl, fun w7 hSw => ?_⟩) (by assumption) ?_
          · have lx := blk_lt hSw.1
            have d0 : w7.cell? ⟨w1.heap.size, 0, none⟩ = some (.int .i8 wd) := cell_of_row _ _ 0 _ _ _ (hSw.1)
            have d1 : w7.cell? ⟨w1.heap.size, 1, none⟩ = some (.int .i8 hi) := cell_of_row _ _ 1 _ _ _ (hSw.1)
            have d2 : w7.cell? ⟨w1.heap.size, 2, none⟩ = some (.map (some B)) := cell_of_row _ _ 2 _ _ _ (hSw.1)
            have d3 : w7.cell? ⟨w1.heap.size, 3, none⟩ = some (.int .i8 wd) := cell_of_row _ _ 3 _ _ _ (hSw.1)
            have d4 : w7.cell? ⟨w1.heap.size, 4, none⟩ = some (.int .i8 hi) := cell_of_row _ _ 4 _ _ _ (hSw.1)
            have d5 : w7.cell? ⟨w1.heap.size, 5, none⟩ = some (.slice (some ⟨b, 0, none⟩) m m) := cell_of_row _ _ 5 _ _ _ (hSw.1)
            have d6 : w7.cell? ⟨w1.heap.size, 6, none⟩ = some (.slice (some ⟨k, 0, none⟩) n n) := cell_of_row _ _ 6 _ _ _ (hSw.1)
            have d7 : w7.cell? ⟨w1.heap.size, 7, none⟩ = some (.slice (some ⟨q, 0, none⟩) r r) := cell_of_row _ _ 7 _ _ _ (hSw.1)
            clear hSw
            go_simp
          try simp only [Act.put, List.setIfInBounds_toArray, List.set_cons_zero, List.set_cons_succ]
          refine wpAnyH_take (i := 2) (v := .agg #[.int .i8 wdz, .int .i8 hiz, .map (some Bz), .int .i8 wdz, .int .i8 hiz, .slice (some ⟨bz, 0, none⟩) mz mz, .slice (some ⟨kz, 0, none⟩) n n, .slice (some ⟨qz, 0, none⟩) r r]) rfl (by kernel_rfl) (by kernel_rfl) (by kernel_rfl) (fun _ _ _ h => absurd h.1 (by simp)) (Or.inl ⟨by rfl, fun w7 hSw => ?_⟩) (by assumption) ?_
          · have lx := blk_lt hSw.2
            have d0 : w7.cell? ⟨w2.heap.size, 0, none⟩ = some (.int .i8 wdz) := cell_of_row _ _ 0 _ _ _ (hSw.2)
            have d1 : w7.cell? ⟨w2.heap.size, 1, none⟩ = some (.int .i8 hiz) := cell_of_row _ _ 1 _ _ _ (hSw.2)
            have d2 : w7.cell? ⟨w2.heap.size, 2, none⟩ = some (.map (some Bz)) := cell_of_row _ _ 2 _ _ _ (hSw.2)
            have d3 : w7.cell? ⟨w2.heap.size, 3, none⟩ = some (.int .i8 wdz) := cell_of_row _ _ 3 _ _ _ (hSw.2)
            have d4 : w7.cell? ⟨w2.heap.size, 4, none⟩ = some (.int .i8 hiz) := cell_of_row _ _ 4 _ _ _ (hSw.2)
            have d5 : w7.cell? ⟨w2.heap.size, 5, none⟩ = some (.slice (some ⟨bz, 0, none⟩) mz mz) := cell_of_row _ _ 5 _ _ _ (hSw.2)
            have d6 : w7.cell? ⟨w2.heap.size, 6, none⟩ = some (.slice (some ⟨kz, 0, none⟩) n n) := cell_of_row _ _ 6 _ _ _ (hSw.2)
            have d7 : w7.cell? ⟨w2.heap.size, 7, none⟩ = some (.slice (some ⟨qz, 0, none⟩) r r) := cell_of_row _ _ 7 _ _ _ (hSw.2)
            clear hSw
            go_simp
          try simp only [Act.put, List.setIfInBounds_toArray, List.set_cons_zero, List.set_cons_succ]
          refine wpAnyH_ready (rs := [1]) (by kernel_rfl) (by simp) ?_
          refine AllReadyH.cons rfl (fun K hK => ?_) AllReadyH.nil
          · go_simp
            go_wp2_with (go_at_call 52
                         refine (HTA.out _ (Below.drew (Below.refl _ _))).mono ?_
                         rintro e W5 ⟨vW5, rfl, hsW5, hbW5⟩
                         obtain ⟨vaW5, vcW5, rfl⟩ := hsW5.form
                         obtain ⟨gW5, oW5, rfl, huW5, hgW5, hcW5, -⟩ := slUs_some hsW5 (by rw [HL1.out]; omega)
                         have kkW5 : Below W2.heap.size W2 W5 := kTrans (Below.drew (Below.refl _ _)) hbW5
                         have HUW5 := Lib.hid huW5
                         have HBBW5 := Lib.hid hbW5
                         have KKW5 := Lib.hid kkW5
                         clear hsW5 hbW5 huW5 kkW5)
            refine hK.out _ _ ⟨blk_below HBD1.out KKW5.out, blk_below HBD2.out KKW5.out⟩ (fun hHeld => ?_)
            clear hK K
            refine wpAnyH_ready (rs := [3]) (by kernel_rfl) (by simp) ?_
            refine AllReadyH.cons rfl (fun K hK => ?_) AllReadyH.nil
            go_simp
            go_wp2_with (go_at_call 52
                         refine (HTZ.out _ (KKW5.out)).mono ?_
                         rintro e W6 ⟨vW6, rfl, hsW6, hbW6⟩
                         obtain ⟨vaW6, vcW6, rfl⟩ := hsW6.form
                         obtain ⟨gW6, oW6, rfl, huW6, hgW6, hcW6, -⟩ := slUs_some hsW6 (by rw [HL2.out]; omega)
                         have kkW6 : Below W2.heap.size W2 W6 := kTrans (KKW5.out) hbW6
                         have HUW6 := Lib.hid huW6
                         have HBBW6 := Lib.hid hbW6
                         have KKW6 := Lib.hid kkW6
                         clear hsW6 hbW6 huW6 kkW6)
            refine hK.out _ _ ⟨blk_below HBD1.out KKW6.out, blk_below HBD2.out KKW6.out⟩ (fun hHeld => ?_)
            clear hK K
            refine wpAnyH_ready (rs := [4]) (by kernel_rfl) (by simp) ?_
            refine AllReadyH.cons rfl (fun K hK => ?_) AllReadyH.nil
            go_simp
            have HU5 := Lib.hid (HUW5.out.below HBBW6.out hgW5)
            have hg5 := Nat.lt_of_lt_of_le hgW5 HBBW6.out.size
            rw [HL1.out] at hcW5 ⊢
            rw [HL2.out] at hcW6 ⊢
            have HRA := Lib.hid (rowApart_any gW5 oW5 gW6 oW6 r vcW5 vcW6 A1 A2 W6 HL1.out HL2.out HU5.out HUW6.out hg5 hgW6 (by omega) hcW5 hcW6 (HS.out _ (kTrans HT2.out KKW6.out)).2 x HX.out hx64 E C HQ2.out)
            go_wp2_with (go_at_call 51
                         refine (HRA.out).mono ?_
                         rintro e W7 ⟨rfl, hb7⟩
                         have KK7 := Lib.hid (kTrans KKW6.out hb7)
                         clear hb7)
            refine hK.out _ _ ⟨blk_below HBD1.out KK7.out, blk_below HBD2.out KK7.out⟩ (fun hHeld => ?_)
            clear hK K HRA
            have HTT := Lib.hid (kTrans HT2.out KK7.out)
            refine wpAnyH_take (i := 5) (v := .int .i64 E) rfl (by kernel_rfl) (by kernel_rfl) (by kernel_rfl) (fun _ _ _ h => absurd h.1 (by simp)) (Or.inl ⟨by rfl, fun w7 hSw => ?_⟩) (by assumption) ?_
            · clear hSw
              go_simp
            try simp only [Act.put, List.setIfInBounds_toArray, List.set_cons_zero, List.set_cons_succ]
            refine wpAnyH_take (i := 6) (v := .int .i64 C) rfl (by kernel_rfl) (by kernel_rfl) (by kernel_rfl) (fun _ _ _ h => absurd h.1 (by simp)) (Or.inl ⟨by rfl, fun w7 hSw => ?_⟩) (by assumption) ?_
            · clear hSw
              go_simp
            try simp only [Act.put, List.setIfInBounds_toArray, List.set_cons_zero, List.set_cons_succ]
            refine wpAnyH_ready (rs := [7]) (by kernel_rfl) (by simp) ?_
            refine AllReadyH.cons rfl (fun K hK => ?_) AllReadyH.nil
            go_simp
            refine hK.out _ _ (by assumption) (fun hHeld => ?_)
            clear hK K
            refine wpAnyH_ready (rs := [8]) (by kernel_rfl) (by simp) ?_
            refine AllReadyH.cons rfl (fun K hK => ?_) AllReadyH.nil
            go_simp
            refine hK.out _ _ (by assumption) (fun hHeld => ?_)
            clear hK K
            refine wpAnyH_done (by kernel_rfl) ?_ _
            refine ⟨rfl, ?_⟩
            go_wp2
            exact bodyPost_ret (v := .tuple #[.int .i64 E, .int .i64 C]) (by simp [results, Tryz.results18, go_sem]) rfl ⟨rfl, HTT.out⟩
        · obtain ⟨hre1, hre2⟩ := ne_facts hre
          obtain ⟨rfl, rfl⟩ := pair_LQ (show ((0 : Int), (4 : Int)) = (E, C) by rw [← HQ.out]; unfold dfQ; rw [if_pos ⟨rfl, rfl⟩, if_neg (fun h => hre h.2)])
          subst hne
          clear HQ HX
          go_wp2
          exact bodyPost_ret (v := .tuple #[.int .i64 0, .int .i64 4]) (by simp [results, Tryz.results18, go_sem]) rfl ⟨rfl, HT2.out⟩
      · obtain ⟨hne1, hne2⟩ := ne_facts hne
        obtain ⟨rfl, rfl⟩ := pair_LQ (show ((0 : Int), (4 : Int)) = (E, C) by rw [← HQ.out]; unfold dfQ; rw [if_pos ⟨rfl, rfl⟩, if_neg (fun h => hne h.1)])
        clear HQ HX
        go_wp2
        exact bodyPost_ret (v := .tuple #[.int .i64 0, .int .i64 4]) (by simp [results, Tryz.results18, go_sem]) rfl ⟨rfl, HT2.out⟩
end Go.Proofs.YthohngkdfhpieaaGreatDoor

/- DifferAt: the model's side. -/
namespace Go.Proofs.YthohngkdfhpieaaGreatDoor
open Go.ChangeShapes Go.WideShapes Go.ChangeAt Go.RowKit Go.Shelf Go.Joins Go.Deep
set_option linter.unusedVariables false
set_option linter.unusedSimpArgs false

set_option maxRecDepth 100000 in
set_option maxHeartbeats 16000000 in
theorem specDifferAt_any (w : World) (b k q m n r : Nat) (wd hi : Int) (l : List Pc) (p : List Po) (c : List Cl) (hp : PcsAt w b 0 l) (hg : PosAt w k 0 p) (hj : ClsAt w q 0 c) (zb : b < w.heap.size) (zk : k < w.heap.size) (zq : q < w.heap.size)
    (hm : l.length = m) (hn : p.length = n) (hr : c.length = r) (h8 : All8 l) (hw : PosWf p) (bw : i8 wd) (bh : i8 hi) (mx0 : m ≤ 1048576) (mx1 : n ≤ 1048576) (mx2 : r ≤ 1048576) (M : Bool) (hM : M = machOk wd hi l p c) (F : Nat → List Fl) (hF : M = true → AnsAt wd hi l p c n F) (N : Nat) (hN : 2 ^ n = N)
    (bz kz qz mz nz rz : Nat) (wdz hiz : Int) (lz : List Pc) (pz : List Po) (cz : List Cl) (hpz : PcsAt w bz 0 lz) (hgz : PosAt w kz 0 pz) (hjz : ClsAt w qz 0 cz) (zbz : bz < w.heap.size) (zkz : kz < w.heap.size) (zqz : qz < w.heap.size)
    (hmz : lz.length = mz) (hnz : pz.length = nz) (hrz : cz.length = rz) (h8z : All8 lz) (hwz : PosWf pz) (bwz : i8 wdz) (bhz : i8 hiz) (mx0z : mz ≤ 1048576) (mx1z : nz ≤ 1048576) (mx2z : rz ≤ 1048576) (Mz : Bool) (hMz : Mz = machOk wdz hiz lz pz cz) (Fz : Nat → List Fl) (hFz : Mz = true → AnsAt wdz hiz lz pz cz nz Fz) (Nz : Nat) (hNz : 2 ^ nz = Nz) (x : Nat) (hx : apartA (tabsM (ansL l c F N) r N) (tabsM (ansL lz cz Fz Nz) rz Nz) 0 = (x : Int)) (hx64 : x < 18446744073709551616) (E C : Int) (hQ : dfQ M Mz n nz r rz x = (E, C)) :
    Calls Tryz.prog 17 #[.agg #[.int .i8 wd, .int .i8 hi, .slice (some ⟨b, 0, none⟩) m m, .slice (some ⟨k, 0, none⟩) n n, .slice (some ⟨q, 0, none⟩) r r], .agg #[.int .i8 wdz, .int .i8 hiz, .slice (some ⟨bz, 0, none⟩) mz mz, .slice (some ⟨kz, 0, none⟩) nz nz, .slice (some ⟨qz, 0, none⟩) rz rz]] w (fun e w' => e = .returned (.tuple #[.int .i64 E, .int .i64 C]) ∧ Below w.heap.size w w') := by
  obtain ⟨W0, hW0⟩ : ∃ W0, (w.alloc (.cells #[.int .i8 wd, .int .i8 hi, .slice (some ⟨b, 0, none⟩) m m, .slice (some ⟨k, 0, none⟩) n n, .slice (some ⟨q, 0, none⟩) r r] 40)).alloc (.cells #[.int .i8 wdz, .int .i8 hiz, .slice (some ⟨bz, 0, none⟩) mz mz, .slice (some ⟨kz, 0, none⟩) nz nz, .slice (some ⟨qz, 0, none⟩) rz rz] 40) = W0 := ⟨_, rfl⟩
  have k0 : Below w.heap.size w W0 := by rw [← hW0]; exact kAlloc (kAlloc (Below.refl _ _) _) _
  have sz0 : W0.heap.size = w.heap.size + 1 + 1 := by rw [← hW0]; simp
  have mA : McAt W0 w.heap.size wd hi (.slice (some ⟨b, 0, none⟩) m m) (.slice (some ⟨k, 0, none⟩) n n) (.slice (some ⟨q, 0, none⟩) r r) := by
    rw [← hW0]; exact (McAt.box w wd hi _ _ _ 40).below (kAlloc (Below.refl _ _) _) (McAt.box w wd hi _ _ _ 40).lt
  have mZ : McAt W0 (w.heap.size + 1) wdz hiz (.slice (some ⟨bz, 0, none⟩) mz mz) (.slice (some ⟨kz, 0, none⟩) nz nz) (.slice (some ⟨qz, 0, none⟩) rz rz) := by
    rw [← hW0]
    have h := McAt.box (w.alloc (.cells #[.int .i8 wd, .int .i8 hi, .slice (some ⟨b, 0, none⟩) m m, .slice (some ⟨k, 0, none⟩) n n, .slice (some ⟨q, 0, none⟩) r r] 40)) wdz hiz (.slice (some ⟨bz, 0, none⟩) mz mz) (.slice (some ⟨kz, 0, none⟩) nz nz) (.slice (some ⟨qz, 0, none⟩) rz rz) 40
    rw [World.size_alloc] at h
    exact h
  have lA := mA.lt
  have lZ := mZ.lt
  have HA0 := Lib.hid (fun W (h : Below W0.heap.size W0 W) => mA.below h mA.lt)
  have HZ0 := Lib.hid (fun W (h : Below W0.heap.size W0 W) => mZ.below h mZ.lt)
  have HV := Lib.hid (fun W (h : Below W0.heap.size W0 W) => l03Ok_any (w.heap.size) b k q m n r wd hi l p c W hm hn hr (HA0.out W h) (hp.below (kTrans k0 h) zb) (hg.below (kTrans k0 h) zk) (hj.below (kTrans k0 h) zq) (Nat.lt_of_lt_of_le zb (kTrans k0 h).size) (Nat.lt_of_lt_of_le zk (kTrans k0 h).size) (Nat.lt_of_lt_of_le zq (kTrans k0 h).size) h8 hw bw bh mx0 mx1 mx2 M hM)
  have HVz := Lib.hid (fun W (h : Below W0.heap.size W0 W) => l03Ok_any (w.heap.size + 1) bz kz qz mz nz rz wdz hiz lz pz cz W hmz hnz hrz (HZ0.out W h) (hpz.below (kTrans k0 h) zbz) (hgz.below (kTrans k0 h) zkz) (hjz.below (kTrans k0 h) zqz) (Nat.lt_of_lt_of_le zbz (kTrans k0 h).size) (Nat.lt_of_lt_of_le zkz (kTrans k0 h).size) (Nat.lt_of_lt_of_le zqz (kTrans k0 h).size) h8z hwz bwz bhz mx0z mx1z mx2z Mz hMz)
  have HP := Lib.hid (fun W (h : Below w.heap.size w W) => hp.below h zb)
  have HG := Lib.hid (fun W (h : Below w.heap.size w W) => hg.below h zk)
  have HC := Lib.hid (fun W (h : Below w.heap.size w W) => hj.below h zq)
  have Hm := Lib.hid hm
  have Hn := Lib.hid hn
  have Hr := Lib.hid hr
  have HM := Lib.hid hM
  have HFF := Lib.hid hF
  have HNN := Lib.hid hN
  have HPz := Lib.hid (fun W (h : Below w.heap.size w W) => hpz.below h zbz)
  have HGz := Lib.hid (fun W (h : Below w.heap.size w W) => hgz.below h zkz)
  have HCz := Lib.hid (fun W (h : Below w.heap.size w W) => hjz.below h zqz)
  have Hmz := Lib.hid hmz
  have Hnz := Lib.hid hnz
  have Hrz := Lib.hid hrz
  have HMz := Lib.hid hMz
  have HFFz := Lib.hid hFz
  have HNNz := Lib.hid hNz
  have HX := Lib.hid hx
  have HQ := Lib.hid hQ
  have HW0 := Lib.hid hW0
  have HK0 := Lib.hid k0
  clear hp hg hj hm hn hr h8 hw hM hF hN hpz hgz hjz hmz hnz hrz h8z hwz hMz hFz hNz hx hQ hW0 mA mZ
  go_enter Tryz.func17, Tryz.ntmps17
  go_upto_region 1 with fail
  try rw [HW0.out]
  clear HW0
  go_wp2_with fail
  refine (HV.out W0 (Below.refl _ _)).mono ?_
  rintro e w1 ⟨rfl, hb1⟩
  have T1 := kTrans HK0.out hb1
  clear HV
  cases M with
  | false =>
    obtain ⟨rfl, rfl⟩ := pair_LQ (show ((0 : Int), (1 : Int)) = (E, C) by rw [← HQ.out]; unfold dfQ; rw [if_neg (by simp)])
    clear HQ HX HVz
    go_wp2
    exact bodyPost_ret (v := .tuple #[.int .i64 0, .int .i64 1]) (by simp [results, Tryz.results17, go_sem]) rfl ⟨rfl, T1⟩
  | true =>
    have hmp := machOk_parts HM.out.symm
    rw [Hm.out, Hn.out, Hr.out] at hmp
    have h6 := hmp.2.1.2.1.2
    have hr8 := hmp.2.1.2.2.2
    have hr1 := hmp.2.1.2.2.1
    have h60 := hmp.2.1.1
    have Hf := Lib.hid (HFF.out rfl)
    clear hmp HFF
    go_wp2_with fail
    refine (HVz.out w1 hb1).mono ?_
    rintro e w2 ⟨rfl, hb2⟩
    have HB2 := Lib.hid (kTrans hb1 hb2)
    have HT2 := Lib.hid (kTrans T1 hb2)
    clear HVz hb1 hb2
    cases Mz with
    | false =>
      obtain ⟨rfl, rfl⟩ := pair_LQ (show ((0 : Int), (1 : Int)) = (E, C) by rw [← HQ.out]; unfold dfQ; rw [if_neg (by simp)])
      clear HQ HX
      go_wp2
      exact bodyPost_ret (v := .tuple #[.int .i64 0, .int .i64 1]) (by simp [results, Tryz.results17, go_sem]) rfl ⟨rfl, HT2.out⟩
    | true =>
      have hmpz := machOk_parts HMz.out.symm
      rw [Hmz.out, Hnz.out, Hrz.out] at hmpz
      have h6z := hmpz.2.1.2.1.2
      have hr8z := hmpz.2.1.2.2.2
      have hr1z := hmpz.2.1.2.2.1
      have h60z := hmpz.2.1.1
      have Hfz := Lib.hid (HFFz.out rfl)
      clear hmpz HFFz
      obtain ⟨x0, x1, x2, x3, x4⟩ := HA0.out w2 HB2.out
      obtain ⟨y0, y1, y2, y3, y4⟩ := HZ0.out w2 HB2.out
      have s2 := HB2.out.size
      have lA2 : w.heap.size < w2.heap.size := Nat.lt_of_lt_of_le lA s2
      have lZ2 : w.heap.size + 1 < w2.heap.size := Nat.lt_of_lt_of_le lZ s2
      by_cases hne : n = nz
      · by_cases hre : r = rz
        · subst hne hre
          have HQ2 := Lib.hid (show leastQ x = (E, C) by rw [← HQ.out]; unfold dfQ; rw [if_pos ⟨rfl, rfl⟩, if_pos ⟨rfl, rfl⟩])
          have HTA := Lib.hid (fun W (h : Below w2.heap.size w2 W) => l03Tables_any w.heap.size b k q m n r wd hi l p c W (HA0.out _ (kTrans HB2.out h)) (HP.out _ (kTrans HT2.out h)) (HG.out _ (kTrans HT2.out h)) (HC.out _ (kTrans HT2.out h)) (Nat.lt_of_lt_of_le zb (kTrans HT2.out h).size) (Nat.lt_of_lt_of_le zk (kTrans HT2.out h).size) (Nat.lt_of_lt_of_le zq (kTrans HT2.out h).size) Hm.out Hn.out Hr.out h6 hr8 F Hf.out N HNN.out)
          have HTZ := Lib.hid (fun W (h : Below w2.heap.size w2 W) => l03Tables_any (w.heap.size + 1) bz kz qz mz n r wdz hiz lz pz cz W (HZ0.out _ (kTrans HB2.out h)) (HPz.out _ (kTrans HT2.out h)) (HGz.out _ (kTrans HT2.out h)) (HCz.out _ (kTrans HT2.out h)) (Nat.lt_of_lt_of_le zbz (kTrans HT2.out h).size) (Nat.lt_of_lt_of_le zkz (kTrans HT2.out h).size) (Nat.lt_of_lt_of_le zqz (kTrans HT2.out h).size) Hmz.out Hnz.out Hrz.out h6z hr8z Fz Hfz.out Nz HNNz.out)
          obtain ⟨A1, hA1⟩ : ∃ A1, (tabsM (ansL l c F N) r N) = A1 := ⟨_, rfl⟩
          obtain ⟨A2, hA2⟩ : ∃ A2, (tabsM (ansL lz cz Fz Nz) r Nz) = A2 := ⟨_, rfl⟩
          have hl1 : A1.length = r := by rw [← hA1]; exact tabsM_length _ _ _
          have hl2 : A2.length = r := by rw [← hA2]; exact tabsM_length _ _ _
          rw [hA1] at HTA HX
          rw [hA2] at HTZ HX
          have HL1 := Lib.hid hl1
          have HL2 := Lib.hid hl2
          clear HQ hA1 hA2 hl1 hl2
          go_upto_region 5 with fail
          clear x0 x1 x2 x3 x4 y0 y1 y2 y3 y4
          go_wp2_with fail
          refine (HTA.out w2 (Below.refl _ _)).mono ?_
          rintro e w5 ⟨v5, rfl, hs5, hb5⟩
          obtain ⟨va5, vc5, rfl⟩ := hs5.form
          obtain ⟨g5, o5, rfl, hu5, hg5, hc5, -⟩ := slUs_some hs5 (by rw [HL1.out]; omega)
          have HU5 := Lib.hid hu5
          have HBB5 := Lib.hid hb5
          clear hs5 hb5 hu5 HTA
          go_wp2_with fail
          refine (HTZ.out w5 HBB5.out).mono ?_
          rintro e w6 ⟨v6, rfl, hs6, hb6⟩
          obtain ⟨va6, vc6, rfl⟩ := hs6.form
          obtain ⟨g6, o6, rfl, hu6, hg6, hc6, -⟩ := slUs_some hs6 (by rw [HL2.out]; omega)
          have HU6 := Lib.hid hu6
          have HU56 := Lib.hid (HU5.out.below hb6 hg5)
          have hg56 := Nat.lt_of_lt_of_le hg5 hb6.size
          have HT6 := Lib.hid (kTrans HT2.out (kTrans HBB5.out hb6))
          rw [HL1.out] at hc5 ⊢
          rw [HL2.out] at hc6 ⊢
          have HRA := Lib.hid (l03Least_any g5 o5 g6 o6 r vc5 vc6 A1 A2 w6 HL1.out HL2.out HU56.out HU6.out hg56 hg6 (by omega) hc5 hc6 x HX.out hx64 E C HQ2.out)
          clear hs6 hb6 hu6 HTZ
          go_wp2_with fail
          refine (HRA.out).mono ?_
          rintro e w7 ⟨rfl, hb7⟩
          go_wp2
          exact bodyPost_ret (v := .tuple #[.int .i64 E, .int .i64 C]) (by simp [results, Tryz.results17, go_sem]) rfl ⟨rfl, kTrans HT6.out hb7⟩
        · obtain ⟨hre1, hre2⟩ := ne_facts hre
          obtain ⟨rfl, rfl⟩ := pair_LQ (show ((0 : Int), (4 : Int)) = (E, C) by rw [← HQ.out]; unfold dfQ; rw [if_pos ⟨rfl, rfl⟩, if_neg (fun h => hre h.2)])
          subst hne
          clear HQ HX
          go_wp2
          exact bodyPost_ret (v := .tuple #[.int .i64 0, .int .i64 4]) (by simp [results, Tryz.results17, go_sem]) rfl ⟨rfl, HT2.out⟩
      · obtain ⟨hne1, hne2⟩ := ne_facts hne
        obtain ⟨rfl, rfl⟩ := pair_LQ (show ((0 : Int), (4 : Int)) = (E, C) by rw [← HQ.out]; unfold dfQ; rw [if_pos ⟨rfl, rfl⟩, if_neg (fun h => hne h.1)])
        clear HQ HX
        go_wp2
        exact bodyPost_ret (v := .tuple #[.int .i64 0, .int .i64 4]) (by simp [results, Tryz.results17, go_sem]) rfl ⟨rfl, HT2.out⟩
end Go.Proofs.YthohngkdfhpieaaGreatDoor

/- Two variables listed and tied: 'stays' and the table of TrailingZeros64: what the condition gives, a world that meets it. -/
namespace Go.Proofs.YthohngkdfhpieaaGreatDoor
open Go.ChangeShapes Go.WideShapes Go.ChangeAt Go.RowKit Go.WideElems
set_option linter.unusedVariables false

theorem gTab : Tryz.prog.globalNamed "math/bits.deBruijn64tab" = some 1 := by kernel_rfl
theorem tTab : (Tryz.prog.globals[1]?).map (·.type) = some 201 := by kernel_rfl
def laid2 : List (String × DataW Unit) := [("math/bits.deBruijn64tab", Rows.laid_math_bits_deBruijn64tab), ("loop.example/g01274/impl.stays", Rows.laid_loop_example_g01274_impl_stays)]
theorem door_met2 (os : Os) (args : Array Value) : laidMetH Tryz.prog laid2 ((World.doorLaid Tryz.prog 400 os).forCall (fun _ _ => 0) ⟨#[], args, []⟩).memory :=
  laidMetH_of_parts3 (fuel := 80) (laidMet_of_run' 80 (by kernel_rfl) (by kernel_rfl)) (by kernel_rfl) (by kernel_rfl)
theorem tab_data : (Rows.laid_math_bits_deBruijn64tab : DataW Unit) = .agg (Lib.deBruijn64tab.map fun n : Nat => .lit (.int .u8 (n : Int))) := by kernel_rfl
theorem tab_array : Tryz.prog.underlying 201 = some (.array 64 5) ∧ Tryz.prog.underlying 5 = some (.int .u8) ∧ Tryz.prog.cellsOf 5 = 1 := ⟨by kernel_rfl, by kernel_rfl, by kernel_rfl⟩
theorem tab_trod {W : World} {cs : List Value} {fuel : Nat} {p : List MemPlace} (h : DataW.trod (fun _ => ()) Tryz.prog W 0 (fun _ => true) false fuel 201 cs = some (Rows.laid_math_bits_deBruijn64tab, p)) :
    ∀ j, j < 64 → cs[j]? = some (.int .u8 (Lib.deBruijn64tab.getD j 0)) := by
  obtain ⟨ha, hu, hc⟩ := tab_array
  obtain ⟨xs, m, _, e, hl, hxl, hg⟩ := DataW.trod_array ha h
  have ee := congrArg Prod.fst e
  rw [tab_data] at ee
  simp only [DataW.agg.injEq] at ee
  intro j hj
  have h1 := hg j hj
  have hjx : j < xs.length := by omega
  rw [List.getElem?_eq_getElem hjx, hc] at h1
  obtain ⟨k, ek, xk, _⟩ := DataW.trod_int hu h1
  have h2 : (Lib.deBruijn64tab.map fun n : Nat => (.lit (.int .u8 (n : Int)) : DataW Unit))[j]? = some (.lit (.int .u8 k)) := by
    rw [ee, List.getElem?_map, List.getElem?_eq_getElem hjx, Option.map_some, xk]
  have hlt : j < Lib.deBruijn64tab.length := hj
  rw [List.getElem?_map, List.getElem?_eq_getElem hlt, Option.map_some] at h2
  have h3 : ((Lib.deBruijn64tab[j] : Nat) : Int) = k := by simpa using h2
  have h4 : cs[j]? = some (.int .u8 k) := by
    have h5 := congrArg (fun l : List Value => l[0]?) ek
    simpa using h5
  rw [h4, ← h3, List.getD_eq_getElem?_getD, List.getElem?_eq_getElem hlt]
  rfl
theorem staytab_of_laid {W : World} (h : laidMetH Tryz.prog laid2 W) : StayTab W := by
  rw [MakeChecks.laidMetH_plain _ _ _ (by kernel_rfl)] at h
  obtain ⟨ps, ⟨g0, t0, cs0, f0_, p0, q0, hg0, ht0, hv0, hd0, hrest, _⟩, hnd, hok⟩ := h
  obtain rfl := Option.some.inj (gTab.symm.trans hg0)
  obtain rfl := Option.some.inj (tTab.symm.trans ht0)
  have ht := tab_trod hd0
  have hc : ∀ j, W.cell? ⟨1, j, none⟩ = cs0[j]? := fun j => World.var?_cell gTab hv0 j
  have hT : TabB 1 W := by
    have h0 : ∀ j, j < 64 → W.cell? ⟨1, j, none⟩ = some (.int .u8 (Lib.deBruijn64tab.getD j 0)) := fun j hj => by rw [hc j, ← ht j hj]; simp
    exact ⟨h0, World.block_lt_of_cell? W _ (h0 0 (by decide))⟩
  obtain ⟨g1, t1, cs1, f1_, p1, q1, hg1, ht1, hv1, hd1, _, _⟩ := hrest
  obtain rfl := Option.some.inj (gStays.symm.trans hg1)
  obtain rfl := Option.some.inj (tStays.symm.trans ht1)
  obtain ⟨f0, f1, f2, hu, ⟨u0, u1, u2⟩, ⟨o0, o1, o2⟩, ⟨n0, n1, n2⟩, n3⟩ := fall_struct
  obtain ⟨y0, y1, y2, n, e, hl, h0, h1, h2⟩ := Deep.trod_struct3 hu hd1
  obtain ⟨L⟩ := cs1
  simp only at hl h0 h1 h2
  rw [n3] at hl
  rw [o0, n0] at h0
  rw [o1, n1] at h1
  rw [o2, n2] at h2
  match L, hl, h0, h1, h2, hv1 with
  | [a, b, c], _, h0, h1, h2, hv1 =>
    obtain ⟨k0, e0, x0, _⟩ := DataW.trod_int u0 h0
    obtain ⟨k1, e1, x1, _⟩ := DataW.trod_int u1 h1
    obtain ⟨k2, e2, x2, _⟩ := DataW.trod_int u2 h2
    have ee := congrArg Prod.fst e
    simp only [Rows.laid_loop_example_g01274_impl_stays, x0, x1, x2, DataW.agg.injEq, List.cons.injEq, DataW.lit.injEq, Lit.int.injEq, true_and, and_true] at ee
    obtain ⟨r0, r1, r2⟩ := ee
    simp at e0 e1 e2
    subst e0 e1 e2 r0 r1 r2
    have hc1 : ∀ j, W.cell? ⟨0, j, none⟩ = (#[Value.int .i64 (-1), .int .i8 0, .int .i64 (-1)] : Array Value)[j]? := fun j => World.var?_cell gStays hv1 j
    have c0 : W.cell? ⟨0, 0, none⟩ = some (.int .i64 (-1)) := hc1 0
    exact ⟨⟨⟨c0, hc1 1, hc1 2⟩, World.block_lt_of_cell? W _ c0⟩, hT⟩
end Go.Proofs.YthohngkdfhpieaaGreatDoor
