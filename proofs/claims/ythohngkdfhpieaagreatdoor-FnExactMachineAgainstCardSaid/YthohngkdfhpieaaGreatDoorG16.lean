/- Several texts in one: Tz, Df, Dfs, Stb. -/
import Derived.Test.YthohngkdfhpieaaGreatDoorG12
import Derived.Test.YthohngkdfhpieaaGreatDoorG2
import Derived.Shelf.Spec.TrailingZeros
import Derived.Test.YthohngkdfhpieaaGreatDoorG11
/- The least row in which tables differ: TrailingZeros64, rowApart, l03Least. -/
namespace Go.Proofs.YthohngkdfhpieaaGreatDoor
open Go.ChangeShapes Go.WideShapes Go.ChangeAt Go.RowKit Go.Joins Go.Deep
set_option linter.unusedVariables false
set_option linter.unusedSimpArgs false

/-- the table of TrailingZeros64 in its variable -/
def TabB (g : Nat) (w : World) : Prop := (∀ j, j < 64 → w.cell? ⟨g, j, none⟩ = some (.int .u8 (Lib.deBruijn64tab.getD j 0))) ∧ g < w.heap.size
theorem TabB.below {g : Nat} {w w' : World} (h : TabB g w) (b : Below w.heap.size w w') : TabB g w' :=
  ⟨fun j hj => (b.cell (p := ⟨g, j, none⟩) h.2).trans (h.1 j hj), Nat.lt_of_lt_of_le h.2 b.size⟩
theorem TabB.kept {g lo hi : Nat} {w w' : World} (h : TabB g w) (k : KeptOut lo hi w w') (h0 : g < lo) : TabB g w' :=
  ⟨fun j hj => (k.cell h.2 (.inl h0)).trans (h.1 j hj), Nat.lt_of_lt_of_le h.2 k.size⟩
set_option maxHeartbeats 1000000 in
theorem tz_core (x k idx : Nat) (w : World) (hx0 : ((x : Int) == 0) = false)
    (key : IntKind.u64.wrap (Go.bits BinOp.and IntKind.u64 (x : Int) (IntKind.u64.wrap (-(x : Int))) * 285870213051353865) / 288230376151711744 = (idx : Int))
    (hi : idx < 64) (hk : k < 64) (hcell : w.cell? ⟨1, idx, none⟩ = some (.int .u8 k)) :
    Calls Tryz.prog 95 #[.int .u64 x] w fun e w' => e = .returned (.int .i64 k) ∧ w = w' := by
  go_enter Tryz.func95, Tryz.ntmps95
  go_wp2_with (simp only [key])
  go_ret
  exact ⟨rfl, rfl⟩
theorem tz64_any (x : Nat) (hx : x < 18446744073709551616) (h0 : x ≠ 0) (w : World) (hT : TabB 1 w) :
    Calls Tryz.prog 95 #[.int .u64 x] w fun e w' => e = .returned (.int .i64 (Lib.ctz 64 x)) ∧ w = w' := by
  obtain ⟨hlow, hk⟩ := Lib.lowest_bit 64 x h0 hx
  obtain ⟨hi, htab⟩ := Lib.deBruijn64_at _ hk
  have hcell := hT.1 _ hi
  rw [htab] at hcell
  exact tz_core x _ _ w (by simp; omega) (tz64_key x _ hx h0 hlow) hi hk hcell

/-- all bits in which two lists of tables differ -/
def apartA : List Int → List Int → Int → Int
  | x :: l, y :: m, a => apartA l m (Go.bits .or .u64 a (Go.bits .xor .u64 x y))
  | _, _, a => a
theorem apartA_wf : ∀ (l m : List Int) (a : Int), (Lit.int .u64 a).wf = true → (Lit.int .u64 (apartA l m a)).wf = true
  | x :: l, y :: m, a, h => apartA_wf l m _ (wf_bits _ _ _ _)
  | [], _, a, h => by unfold apartA; exact h
  | _ :: _, [], a, h => by unfold apartA; exact h
theorem u64_nat {a : Int} (h : (Lit.int .u64 a).wf = true) : ∃ x : Nat, a = (x : Int) ∧ x < 18446744073709551616 := by
  have := bounds_u64 h
  exact ⟨a.toNat, by omega, by omega⟩
/-- the least row in which they do, and a code -/
def leastQ (x : Nat) : Int × Int := if x = 0 then (0, 6) else ((Lib.ctz 64 x : Nat), 0)
theorem pair_LQ {a b c d : Int} (h : (a, b) = (c, d)) : a = c ∧ b = d := by injection h with h1 h2; exact ⟨h1, h2⟩
theorem ctz_parts {x : Nat} (h0 : x ≠ 0) (hx : x < 18446744073709551616) : ∃ m, x = 2 ^ Lib.ctz 64 x * (2 * m + 1) ∧ Lib.ctz 64 x < 64 := by
  obtain ⟨m, hm, hk⟩ := Lib.ctzFrom_spec 64 x (by omega) hx
  have e : Lib.ctz 64 x = Lib.ctzFrom 64 x := by simp [Lib.ctz, h0]
  rw [e]
  exact ⟨m, hm, hk⟩
theorem bit_below {x t m k : Nat} (h : x = 2 ^ t * (2 * m + 1)) (hk : k < t) : x / 2 ^ k % 2 = 0 := by
  have e : 2 ^ t = 2 ^ k * (2 * 2 ^ (t - k - 1)) := by
    rw [← Nat.pow_succ', ← Nat.pow_add]
    congr 1
    omega
  rw [h, e, Nat.mul_assoc, Nat.mul_div_cancel_left _ (Nat.pow_pos (by decide)), Nat.mul_assoc]
  exact Nat.mul_mod_right _ _
theorem bit_at {x t m : Nat} (h : x = 2 ^ t * (2 * m + 1)) : x / 2 ^ t % 2 = 1 := by
  rw [h, Nat.mul_div_cancel_left _ (Nat.pow_pos (by decide))]
  omega
theorem and_one_nat {x k : Nat} (hx : x < 18446744073709551616) : Go.bits .and .u64 ((x : Int) / 2 ^ k) 1 = ((x / 2 ^ k % 2 : Nat) : Int) := by
  have e : (x : Int) / 2 ^ k = ((x / 2 ^ k : Nat) : Int) := by push_cast; rfl
  have h := bits_and_u64_nat (x / 2 ^ k) 1 (Nat.lt_of_le_of_lt (Nat.div_le_self _ _) hx) (by decide)
  rw [Nat.and_one_is_mod] at h
  rw [e]
  exact h
set_option maxRecDepth 100000 in
set_option maxHeartbeats 4000000 in
theorem rowApart_any (b1 o1 b2 o2 n c1 c2 : Nat) (l1 l2 : List Int) (w : World) (hn1 : l1.length = n) (hn2 : l2.length = n) (h1 : UssAt w b1 o1 l1) (h2 : UssAt w b2 o2 l2) (hb1 : b1 < w.heap.size) (hb2 : b2 < w.heap.size) (hmax : n ≤ 1048576) (hc1 : n ≤ c1) (hc2 : n ≤ c2) (hT : TabB 1 w)
    (x : Nat) (hx : apartA l1 l2 0 = (x : Int)) (hx64 : x < 18446744073709551616) (E C : Int) (hQ : leastQ x = (E, C)) :
    Calls Tryz.prog 51 #[.slice (some ⟨b1, o1, none⟩) n c1, .slice (some ⟨b2, o2, none⟩) n c2] w fun e w' => e = .returned (.tuple #[.int .i64 E, .int .i64 C]) ∧ Below w.heap.size w w' := by
  have Hn1 := Lib.hid hn1
  have Hn2 := Lib.hid hn2
  have HT := Lib.hid hT
  obtain ⟨t, ht⟩ : ∃ t, Lib.ctz 64 x = t := ⟨_, rfl⟩
  have HTT := Lib.hid ht
  have HQ : Hid ((if x = 0 then ((0 : Int), (6 : Int)) else (((t : Nat) : Int), (0 : Int))) = (E, C)) := Lib.hid (by rw [← ht]; exact hQ)
  have HX : Hid (apartA (l1.drop 0) (l2.drop 0) 0 = (x : Int)) := Lib.hid hx
  clear hn1 hn2 hT hQ hx ht
  go_enter Tryz.func51, Tryz.ntmps51
  go_wp2
  go_loopw [6, 11] (fun a i wr => ∃ (k : Nat) (s : Int), k ≤ n ∧ i = .int .i64 k ∧ a = .int .u64 s ∧ Hid (apartA (l1.drop k) (l2.drop k) s = (x : Int)) ∧ w = wr) (fun _ i _ => n - (intOf i).toNat)
  case atStart => exact ⟨0, 0, by omega, rfl, rfl, HX, rfl⟩
  case round =>
    clear HX
    obtain ⟨k, s, hk, rfl, rfl, hf, rfl⟩ := hrel
    by_cases hlt : k < n
    · have hlk1 : k < l1.length := by rw [Hn1.out]; exact hlt
      have hlk2 : k < l2.length := by rw [Hn2.out]; exact hlt
      have d1 := h1 k hlk1
      have d2 := h2 k hlk2
      have hq := hf.out
      rw [List.drop_eq_getElem_cons hlk1, List.drop_eq_getElem_cons hlk2] at hq
      unfold apartA at hq
      generalize l1[k] = u at d1 hq
      generalize l2[k] = v at d2 hq
      obtain ⟨z, hz⟩ : ∃ z, Go.bits .xor .u64 u v = z := ⟨_, rfl⟩
      rw [hz] at hq
      obtain ⟨y, hy⟩ : ∃ y, Go.bits .or .u64 s z = y := ⟨_, rfl⟩
      rw [hy] at hq
      have HF := Lib.hid hq
      clear hf hq h1 h2
      go_wp2
      exact ⟨⟨k + 1, y, by omega, by go_num, by try (first | rfl | simp [hz, hy]), HF, trivial⟩, by simp [intOf]; omega⟩
    · obtain rfl : k = n := by omega
      obtain rfl : s = (x : Int) := by rw [← hf.out, List.drop_of_length_le (by rw [Hn1.out]; exact Nat.le_refl _)]; rfl
      clear hf h1 h2
      by_cases h0 : x = 0
      · obtain ⟨rfl, rfl⟩ := pair_LQ (show ((0 : Int), (6 : Int)) = (E, C) by rw [← HQ.out, if_pos h0])
        subst h0
        clear HQ
        go_wp2
        exact bodyPost_ret (v := .tuple #[.int .i64 0, .int .i64 6]) (by simp [results, Tryz.results51, go_sem]) rfl ⟨rfl, by repeat (first | with_reducible exact Below.refl _ _ | (with_reducible refine kSet ?_ ?hB _; case hB => (simp; try omega)) | with_reducible refine kAlloc ?_ _ | with_reducible refine Below.drew ?_ | with_reducible refine kDrewN ?_ _ | with_reducible refine kTrans ?_ (by assumption))⟩
      · obtain ⟨rfl, rfl⟩ := pair_LQ (show (((t : Nat) : Int), (0 : Int)) = (E, C) by rw [← HQ.out, if_neg h0])
        have h0' : ((x : Int) == 0) = false := by simpa using h0
        have HC := Lib.hid (tz64_any x hx64 h0 w HT.out)
        rw [HTT.out] at HC
        clear HQ HTT
        go_wp2_with fail
        refine HC.out.mono ?_
        rintro e w1 ⟨rfl, rfl⟩
        go_wp2
        exact bodyPost_ret (v := .tuple #[.int .i64 t, .int .i64 0]) (by simp [results, Tryz.results51, go_sem]) rfl ⟨rfl, by repeat (first | with_reducible exact Below.refl _ _ | (with_reducible refine kSet ?_ ?hB _; case hB => (simp; try omega)) | with_reducible refine kAlloc ?_ _ | with_reducible refine Below.drew ?_ | with_reducible refine kDrewN ?_ _ | with_reducible refine kTrans ?_ (by assumption))⟩
set_option maxRecDepth 100000 in
set_option maxHeartbeats 4000000 in
theorem l03Least_any (b1 o1 b2 o2 n c1 c2 : Nat) (l1 l2 : List Int) (w : World) (hn1 : l1.length = n) (hn2 : l2.length = n) (h1 : UssAt w b1 o1 l1) (h2 : UssAt w b2 o2 l2) (hb1 : b1 < w.heap.size) (hb2 : b2 < w.heap.size) (hmax : n ≤ 1048576) (hc1 : n ≤ c1) (hc2 : n ≤ c2)
    (x : Nat) (hx : apartA l1 l2 0 = (x : Int)) (hx64 : x < 18446744073709551616) (E C : Int) (hQ : leastQ x = (E, C)) :
    Calls Tryz.prog 49 #[.slice (some ⟨b1, o1, none⟩) n c1, .slice (some ⟨b2, o2, none⟩) n c2] w fun e w' => e = .returned (.tuple #[.int .i64 E, .int .i64 C]) ∧ Below w.heap.size w w' := by
  have Hn1 := Lib.hid hn1
  have Hn2 := Lib.hid hn2
  obtain ⟨t, ht⟩ : ∃ t, Lib.ctz 64 x = t := ⟨_, rfl⟩
  have HTT := Lib.hid ht
  have HQ : Hid ((if x = 0 then ((0 : Int), (6 : Int)) else (((t : Nat) : Int), (0 : Int))) = (E, C)) := Lib.hid (by rw [← ht]; exact hQ)
  have HX : Hid (apartA (l1.drop 0) (l2.drop 0) 0 = (x : Int)) := Lib.hid hx
  clear hn1 hn2 hQ hx ht
  go_enter Tryz.func49, Tryz.ntmps49
  go_wp2
  go_loopw [6, 7] (fun a i wr => ∃ (k : Nat) (s : Int), k ≤ n ∧ i = .int .i64 k ∧ a = .int .u64 s ∧ Hid (apartA (l1.drop k) (l2.drop k) s = (x : Int)) ∧ Below w.heap.size w wr) (fun _ i _ => n - (intOf i).toNat)
  case atStart => exact ⟨0, 0, by omega, rfl, rfl, HX, Below.refl _ _⟩
  case round =>
    clear HX
    obtain ⟨k, s, hk, rfl, rfl, hf, hbr⟩ := hrel
    by_cases hlt : k < n
    · have hlk1 : k < l1.length := by rw [Hn1.out]; exact hlt
      have hlk2 : k < l2.length := by rw [Hn2.out]; exact hlt
      have d1 := (h1.below hbr hb1) k hlk1
      have d2 := (h2.below hbr hb2) k hlk2
      have hq := hf.out
      rw [List.drop_eq_getElem_cons hlk1, List.drop_eq_getElem_cons hlk2] at hq
      unfold apartA at hq
      generalize l1[k] = u at d1 hq
      generalize l2[k] = v at d2 hq
      have HF := Lib.hid hq
      clear hf hq h1 h2
      go_wp2
      go_quiet (fail)
      go_wp2
      exact ⟨⟨k + 1, _, by omega, by go_num, rfl, HF, kDrewN hbr _⟩, by simp [intOf]; omega⟩
    · obtain rfl : k = n := by omega
      obtain rfl : s = (x : Int) := by rw [← hf.out, List.drop_of_length_le (by rw [Hn1.out]; exact Nat.le_refl _)]; rfl
      clear hf h1 h2
      by_cases h0 : x = 0
      · obtain ⟨rfl, rfl⟩ := pair_LQ (show ((0 : Int), (6 : Int)) = (E, C) by rw [← HQ.out, if_pos h0])
        subst h0
        clear HQ
        go_wp2
        exact bodyPost_ret (v := .tuple #[.int .i64 0, .int .i64 6]) (by simp [results, Tryz.results49, go_sem]) rfl ⟨rfl, hbr⟩
      · obtain ⟨m, hm, ht64⟩ := ctz_parts h0 hx64
        obtain ⟨rfl, rfl⟩ := pair_LQ (show (((t : Nat) : Int), (0 : Int)) = (E, C) by rw [← HQ.out, if_neg h0])
        have h0' : ((x : Int) == 0) = false := by simpa using h0
        rw [HTT.out] at hm ht64
        have HM := Lib.hid hm
        clear HQ HTT hm h0
        go_wp2
        go_loopw [8] (fun i wr => ∃ k : Nat, k ≤ t ∧ i = .int .i64 k ∧ Below w.heap.size w wr) (fun i _ => t - (intOf i).toNat)
        case atStart => exact ⟨0, by omega, rfl, hbr⟩
        case round =>
          clear hbr
          obtain ⟨k, hk, rfl, hbr⟩ := hrel
          have hi0 : (0 : Int) ≤ (k : Int) := by omega
          have hi1 : (k : Int) ≤ 64 := by omega
          have e : (k : Int).toNat = k := by simp
          have hand := and_one_nat (x := x) (k := k) hx64
          by_cases hlt : k < t
          · rw [bit_below HM.out hlt] at hand
            go_wp2
            exact ⟨⟨k + 1, by omega, by go_num, hbr⟩, by simp [intOf]; omega⟩
          · obtain rfl : k = t := by omega
            rw [bit_at HM.out] at hand
            go_wp2
            exact bodyPost_ret (v := .tuple #[.int .i64 k, .int .i64 0]) (by simp [results, Tryz.results49, go_sem]) rfl ⟨rfl, hbr⟩
end Go.Proofs.YthohngkdfhpieaaGreatDoor

/- DifferAt: both sides. -/
namespace Go.Proofs.YthohngkdfhpieaaGreatDoor
open Go.ChangeShapes Go.WideShapes Go.ChangeAt Go.RowKit Go.Shelf Go.Joins Go.Deep
set_option linter.unusedVariables false
set_option linter.unusedSimpArgs false

/-- both variables hold what they are laid with -/
def StayTab (w : World) : Prop := StayAt w ∧ TabB 1 w
theorem StayTab.below {w w' : World} (h : StayTab w) (b : Below w.heap.size w w') : StayTab w' := ⟨h.1.below b, h.2.below b⟩
theorem StayTab.kept {lo hi : Nat} {w w' : World} (h : StayTab w) (g : KeptOut lo hi w w') (h0 : 1 < lo) : StayTab w' := ⟨h.1.kept g (by omega), h.2.kept g h0⟩
theorem slUs_some {w : World} {T : List Int} {va : Option Addr} {vc N lo hi : Nat} (h : SlWUs lo hi w T (.slice va N vc)) (h0 : 0 < T.length) : ∃ g o, va = some ⟨g, o, none⟩ ∧ UssAt w g o T ∧ g < w.heap.size ∧ T.length ≤ vc ∧ N = T.length := by
  generalize hv : Value.slice va N vc = v at h
  cases h with
  | empty _ _ h => rw [h] at h0; simp at h0
  | mk g o c h1 h2 h3 h4 h5 h6 => cases hv; exact ⟨_, _, rfl, h1, h4, h6, rfl⟩
theorem ne_facts {a b : Nat} (h : a ≠ b) : ((a : Int) != (b : Int)) = true ∧ ((a : Int) == (b : Int)) = false := ⟨by simpa using (fun e => h (by omega)), by simpa using (fun e => h (by omega))⟩
end Go.Proofs.YthohngkdfhpieaaGreatDoor

/- DifferAt: the model's side. -/
namespace Go.Proofs.YthohngkdfhpieaaGreatDoor
open Go.ChangeShapes Go.WideShapes Go.ChangeAt Go.RowKit Go.Shelf Go.Joins Go.Deep
set_option linter.unusedVariables false
set_option linter.unusedSimpArgs false

end Go.Proofs.YthohngkdfhpieaaGreatDoor

/- Two variables listed and tied: 'stays' and the table of TrailingZeros64: what the condition gives, a world that meets it. -/
namespace Go.Proofs.YthohngkdfhpieaaGreatDoor
open Go.ChangeShapes Go.WideShapes Go.ChangeAt Go.RowKit Go.WideElems
set_option linter.unusedVariables false

theorem gTab : Tryz.prog.globalNamed "math/bits.deBruijn64tab" = some 1 := by kernel_rfl
theorem tTab : (Tryz.prog.globals[1]?).map (·.type) = some 201 := by kernel_rfl
def laid2 : List (String × DataW Unit) := [("math/bits.deBruijn64tab", Rows.laid_math_bits_deBruijn64tab), ("loop.example/g01274/impl.stays", Rows.laid_loop_example_g01274_impl_stays)]
theorem door_met2 (os : Os) (args : Array Value) : laidMetH Tryz.prog laid2 ((World.doorLaid Tryz.prog 400 os).forCall (fun _ _ => 0) ⟨#[], args, []⟩).memory :=
  laidMetH_of_parts3 (fuel := 80) (laidMet_of_run' 80 (by kernel_rfl) (by kernel_rfl)) (by kernel_rfl) (by kernel_rfl)
theorem tab_data : (Rows.laid_math_bits_deBruijn64tab : DataW Unit) = .agg (Lib.deBruijn64tab.map fun n : Nat => .lit (.int .u8 (n : Int))) := by kernel_rfl
theorem tab_array : Tryz.prog.underlying 201 = some (.array 64 5) ∧ Tryz.prog.underlying 5 = some (.int .u8) ∧ Tryz.prog.cellsOf 5 = 1 := ⟨by kernel_rfl, by kernel_rfl, by kernel_rfl⟩
theorem tab_trod {W : World} {cs : List Value} {fuel : Nat} {p : List MemPlace} (h : DataW.trod (fun _ => ()) Tryz.prog W 0 (fun _ => true) false fuel 201 cs = some (Rows.laid_math_bits_deBruijn64tab, p)) :
    ∀ j, j < 64 → cs[j]? = some (.int .u8 (Lib.deBruijn64tab.getD j 0)) := by
  obtain ⟨ha, hu, hc⟩ := tab_array
  obtain ⟨xs, m, _, e, hl, hxl, hg⟩ := DataW.trod_array ha h
  have ee := congrArg Prod.fst e
  rw [tab_data] at ee
  simp only [DataW.agg.injEq] at ee
  intro j hj
  have h1 := hg j hj
  have hjx : j < xs.length := by omega
  rw [List.getElem?_eq_getElem hjx, hc] at h1
  obtain ⟨k, ek, xk, _⟩ := DataW.trod_int hu h1
  have h2 : (Lib.deBruijn64tab.map fun n : Nat => (.lit (.int .u8 (n : Int)) : DataW Unit))[j]? = some (.lit (.int .u8 k)) := by
    rw [ee, List.getElem?_map, List.getElem?_eq_getElem hjx, Option.map_some, xk]
  have hlt : j < Lib.deBruijn64tab.length := hj
  rw [List.getElem?_map, List.getElem?_eq_getElem hlt, Option.map_some] at h2
  have h3 : ((Lib.deBruijn64tab[j] : Nat) : Int) = k := by simpa using h2
  have h4 : cs[j]? = some (.int .u8 k) := by
    have h5 := congrArg (fun l : List Value => l[0]?) ek
    simpa using h5
  rw [h4, ← h3, List.getD_eq_getElem?_getD, List.getElem?_eq_getElem hlt]
  rfl
theorem staytab_of_laid {W : World} (h : laidMetH Tryz.prog laid2 W) : StayTab W := by
  rw [MakeChecks.laidMetH_plain _ _ _ (by kernel_rfl)] at h
  obtain ⟨ps, ⟨g0, t0, cs0, f0_, p0, q0, hg0, ht0, hv0, hd0, hrest, _⟩, hnd, hok⟩ := h
  obtain rfl := Option.some.inj (gTab.symm.trans hg0)
  obtain rfl := Option.some.inj (tTab.symm.trans ht0)
  have ht := tab_trod hd0
  have hc : ∀ j, W.cell? ⟨1, j, none⟩ = cs0[j]? := fun j => World.var?_cell gTab hv0 j
  have hT : TabB 1 W := by
    have h0 : ∀ j, j < 64 → W.cell? ⟨1, j, none⟩ = some (.int .u8 (Lib.deBruijn64tab.getD j 0)) := fun j hj => by rw [hc j, ← ht j hj]; simp
    exact ⟨h0, World.block_lt_of_cell? W _ (h0 0 (by decide))⟩
  obtain ⟨g1, t1, cs1, f1_, p1, q1, hg1, ht1, hv1, hd1, _, _⟩ := hrest
  obtain rfl := Option.some.inj (gStays.symm.trans hg1)
  obtain rfl := Option.some.inj (tStays.symm.trans ht1)
  obtain ⟨f0, f1, f2, hu, ⟨u0, u1, u2⟩, ⟨o0, o1, o2⟩, ⟨n0, n1, n2⟩, n3⟩ := fall_struct
  obtain ⟨y0, y1, y2, n, e, hl, h0, h1, h2⟩ := Deep.trod_struct3 hu hd1
  obtain ⟨L⟩ := cs1
  simp only at hl h0 h1 h2
  rw [n3] at hl
  rw [o0, n0] at h0
  rw [o1, n1] at h1
  rw [o2, n2] at h2
  match L, hl, h0, h1, h2, hv1 with
  | [a, b, c], _, h0, h1, h2, hv1 =>
    obtain ⟨k0, e0, x0, _⟩ := DataW.trod_int u0 h0
    obtain ⟨k1, e1, x1, _⟩ := DataW.trod_int u1 h1
    obtain ⟨k2, e2, x2, _⟩ := DataW.trod_int u2 h2
    have ee := congrArg Prod.fst e
    simp only [Rows.laid_loop_example_g01274_impl_stays, x0, x1, x2, DataW.agg.injEq, List.cons.injEq, DataW.lit.injEq, Lit.int.injEq, true_and, and_true] at ee
    obtain ⟨r0, r1, r2⟩ := ee
    simp at e0 e1 e2
    subst e0 e1 e2 r0 r1 r2
    have hc1 : ∀ j, W.cell? ⟨0, j, none⟩ = (#[Value.int .i64 (-1), .int .i8 0, .int .i64 (-1)] : Array Value)[j]? := fun j => World.var?_cell gStays hv1 j
    have c0 : W.cell? ⟨0, 0, none⟩ = some (.int .i64 (-1)) := hc1 0
    exact ⟨⟨⟨c0, hc1 1, hc1 2⟩, World.block_lt_of_cell? W _ c0⟩, hT⟩
end Go.Proofs.YthohngkdfhpieaaGreatDoor
