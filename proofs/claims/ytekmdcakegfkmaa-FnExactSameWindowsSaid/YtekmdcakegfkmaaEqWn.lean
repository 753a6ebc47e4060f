/- Records of the type Window compared by '==', and slices of them. -/
import Derived.Test.YtekmdcakegfkmaaWn
import Derived.Test.YtekmdcakegfkmaaG1
import Derived.Laws.StructEq
namespace Go.Proofs.Ytekmdcakegfkmaa
open Go.ChangeShapes Go.WideShapes Go.ChangeAt Go.RowKit Go.Joins Go.Deep
set_option linter.unusedVariables false

theorem Wn_eq (p q : Wn) (w : World) : (Op.equalIn 10000 53 (.agg #[.int .u8 p.sides, .bool p.sure, .int .i64 p.early, .int .i64 p.late]) (.agg #[.int .u8 q.sides, .bool q.sure, .int .i64 q.early, .int .i64 q.late])).run Try.prog w = .ok (decide (p = q)) w := by
  obtain ⟨a, b, c, d⟩ := p
  obtain ⟨a', b', c', d'⟩ := q
  have hS : Try.prog.underlying 53 = some (.struct (Try.prog.fieldsOf 53)) := by kernel_rfl
  have hp : Try.prog.stoodInHeld 53 = false := by kernel_rfl
  rw [show (10000 : Nat) = 9999 + 1 from rfl, run_equalIn_agg w 9999 53 _ _ hS hp]
  simp only [Program.fieldsOf, Try.underlying53]
  go_simp
  by_cases h1 : a = a' <;> by_cases h3 : c = c' <;> by_cases h4 : d = d' <;> cases b <;> cases b' <;> simp [h1, h3, h4]
set_option maxRecDepth 100000 in
set_option maxHeartbeats 4000000 in
theorem specWindowsSame_eqlen (b1 o1 b2 o2 n c1 c2 : Nat) (l1 l2 : List Wn) (w : World) (hn1 : l1.length = n) (hn2 : l2.length = n) (h1 : WnsAt w b1 o1 l1) (h2 : WnsAt w b2 o2 l2) (hb1 : b1 < w.heap.size) (hb2 : b2 < w.heap.size) (hc1 : n ≤ c1) (hc2 : n ≤ c2) (hmax : n ≤ 1048576) (R : Bool) (hR : decide (l1 = l2) = R) :
    Calls Try.prog 25 #[.slice (some ⟨b1, o1, none⟩) n c1, .slice (some ⟨b2, o2, none⟩) n c2] w fun e w' => e = .returned (.bool R) ∧ Below w.heap.size w w' := by
  have Hn1 := Lib.hid hn1
  have Hn2 := Lib.hid hn2
  have HR : Hid (decide (l1.drop 0 = l2.drop 0) = R) := Lib.hid hR
  clear hn1 hn2 hR
  go_enter Try.func25, Try.ntmps25
  go_wp2
  go_loopw [5] (fun i wr => ∃ k : Nat, k ≤ n ∧ i = .int .i64 k ∧ Hid (decide (l1.drop k = l2.drop k) = R) ∧ Below w.heap.size w wr) (fun i _ => n - (intOf i).toNat)
  case atStart => exact ⟨0, by omega, rfl, HR, Below.refl _ _⟩
  case round =>
    obtain ⟨k, hk, rfl, hf, hbr⟩ := hrel
    by_cases hlt : k < n
    · have hlk1 : k < l1.length := by rw [Hn1.out]; exact hlt
      have hlk2 : k < l2.length := by rw [Hn2.out]; exact hlt
      have hp1 := (h1.below hbr hb1) k hlk1
      have hp2 := (h2.below hbr hb2) k hlk2
      have hd1 : l1.drop k = l1[k] :: l1.drop (k + 1) := List.drop_eq_getElem_cons hlk1
      have hd2 : l2.drop k = l2[k] :: l2.drop (k + 1) := List.drop_eq_getElem_cons hlk2
      generalize l1[k] = p at hp1 hd1
      generalize l2[k] = q at hp2 hd2
      have hq := hf.out
      rw [hd1, hd2] at hq
      have he := Wn_eq p q
      have hgm : Try.prog.eqGuardType Try.prog.depth 53 = false := by kernel_rfl
      obtain ⟨a0, a1, a2, a3⟩ := hp1
      obtain ⟨d0, d1, d2, d3⟩ := hp2
      by_cases hpq : p = q
      · have hR : Hid (decide (l1.drop (k + 1) = l2.drop (k + 1)) = R) := Lib.hid (by rw [← hq]; simp [hpq])
        rw [show decide (p = q) = true by simpa using hpq] at he
        clear h1 h2 hf hd1 hd2 hq HR hpq
        go_wp2
        go_quiet (fail)
        go_wp2
        exact ⟨⟨k + 1, by omega, by go_num, hR, kDrewN hbr _⟩, by simp [intOf]; omega⟩
      · obtain rfl : R = false := by rw [← hq]; simp [hpq]
        rw [show decide (p = q) = false by simpa using hpq] at he
        clear h1 h2 hf hd1 hd2 hq HR hpq
        go_wp2
        go_quiet (fail)
        go_wp2
        go_ret
        exact ⟨rfl, kDrewN hbr _⟩
    · obtain rfl : R = true := by rw [← hf.out, List.drop_of_length_le (by rw [Hn1.out]; omega), List.drop_of_length_le (by rw [Hn2.out]; omega)]; simp
      clear h1 h2 hf HR
      go_wp2
      go_ret
      exact ⟨rfl, hbr⟩
set_option maxHeartbeats 1000000 in
theorem specWindowsSame_lens (a1 a2 : Option Addr) (n1 n2 c1 c2 : Nat) (w : World) (h1 : n1 ≤ 1048576) (h2 : n2 ≤ 1048576) (h : n1 ≠ n2) :
    Calls Try.prog 25 #[.slice a1 n1 c1, .slice a2 n2 c2] w fun e w' => e = .returned (.bool false) ∧ Below w.heap.size w w' := by
  have hne : ((n1 : Int) != (n2 : Int)) = true := by simpa using (fun e => h (by omega))
  have hne2 : ((n1 : Int) == (n2 : Int)) = false := by simpa using (fun e => h (by omega))
  go_enter Try.func25, Try.ntmps25
  go_wp2
  go_ret
  exact ⟨rfl, Below.refl _ _⟩
set_option maxHeartbeats 1000000 in
theorem specWindowsSame_none (a1 a2 : Option Addr) (c1 c2 : Nat) (w : World) :
    Calls Try.prog 25 #[.slice a1 0 c1, .slice a2 0 c2] w fun e w' => e = .returned (.bool true) ∧ Below w.heap.size w w' := by
  go_enter Try.func25, Try.ntmps25
  go_wp2
  refine wp_loop_rounds 1 ?_
  rw [rounds_succ]
  go_wp2
  go_ret
  exact ⟨rfl, Below.refl _ _⟩
theorem specWindowsSame_any (v1 v2 : Value) (l1 l2 : List Wn) (w : World) (h1 : SlWn w l1 v1) (h2 : SlWn w l2 v2) (hm1 : l1.length ≤ 1048576) (hm2 : l2.length ≤ 1048576) (R : Bool) (hR : decide (l1 = l2) = R) :
    Calls Try.prog 25 #[v1, v2] w fun e w' => e = .returned (.bool R) ∧ Below w.heap.size w w' := by
  by_cases hl : l1.length = l2.length
  · cases h1 with
    | empty a cap h =>
      subst h
      obtain rfl : l2 = [] := by cases l2 with | nil => rfl | cons => simp at hl
      obtain rfl : R = true := by rw [← hR]; simp
      cases h2 with
      | empty a2 cap2 h => exact specWindowsSame_none a a2 cap cap2 w
      | mk b o cap2 hc hb hl => exact specWindowsSame_none a _ cap cap2 w
    | mk b o cap hc hb hcap =>
      cases h2 with
      | empty a2 cap2 h =>
        subst h
        obtain rfl : l1 = [] := by cases l1 with | nil => rfl | cons => simp at hl
        obtain rfl : R = true := by rw [← hR]; simp
        exact specWindowsSame_none _ a2 cap cap2 w
      | mk b2 o2 cap2 hc2 hb2 hcap2 =>
        rw [← hl] at hcap2 ⊢
        exact specWindowsSame_eqlen b o b2 o2 _ cap cap2 l1 l2 w rfl hl.symm hc hc2 hb hb2 hcap hcap2 hm1 R hR
  · obtain rfl : R = false := by rw [← hR]; simpa using fun e => hl (by rw [e])
    have s1 : ∃ a n c, v1 = .slice a n c ∧ n = l1.length := by
      cases h1 with
      | empty a cap h => exact ⟨a, 0, cap, rfl, by rw [h]; rfl⟩
      | mk b o cap _ _ _ => exact ⟨_, _, cap, rfl, rfl⟩
    have s2 : ∃ a n c, v2 = .slice a n c ∧ n = l2.length := by
      cases h2 with
      | empty a cap h => exact ⟨a, 0, cap, rfl, by rw [h]; rfl⟩
      | mk b o cap _ _ _ => exact ⟨_, _, cap, rfl, rfl⟩
    obtain ⟨a1, n1, c1, rfl, rfl⟩ := s1
    obtain ⟨a2, n2, c2, rfl, rfl⟩ := s2
    exact specWindowsSame_lens a1 a2 _ _ c1 c2 w hm1 hm2 hl
set_option maxRecDepth 100000 in
set_option maxHeartbeats 4000000 in
theorem WindowsEqual_eqlen (b1 o1 b2 o2 n c1 c2 : Nat) (l1 l2 : List Wn) (w : World) (hn1 : l1.length = n) (hn2 : l2.length = n) (h1 : WnsAt w b1 o1 l1) (h2 : WnsAt w b2 o2 l2) (hb1 : b1 < w.heap.size) (hb2 : b2 < w.heap.size) (hc1 : n ≤ c1) (hc2 : n ≤ c2) (hmax : n ≤ 1048576) (R : Bool) (hR : decide (l1 = l2) = R) :
    Calls Try.prog 78 #[.slice (some ⟨b1, o1, none⟩) n c1, .slice (some ⟨b2, o2, none⟩) n c2] w fun e w' => e = .returned (.bool R) ∧ Below w.heap.size w w' := by
  have Hn1 := Lib.hid hn1
  have Hn2 := Lib.hid hn2
  have HR : Hid (decide (l1.drop 0 = l2.drop 0) = R) := Lib.hid hR
  clear hn1 hn2 hR
  go_enter Try.func78, Try.ntmps78
  go_wp2
  go_loopw [5, 13] (fun _ i wr => ∃ k : Nat, k ≤ n ∧ i = .int .i64 k ∧ Hid (decide (l1.drop k = l2.drop k) = R) ∧ Below w.heap.size w wr) (fun _ i _ => n - (intOf i).toNat)
  case atStart => exact ⟨0, by omega, rfl, HR, Below.refl _ _⟩
  case round =>
    obtain ⟨k, hk, rfl, hf, hbr⟩ := hrel
    by_cases hlt : k < n
    · have hlk1 : k < l1.length := by rw [Hn1.out]; exact hlt
      have hlk2 : k < l2.length := by rw [Hn2.out]; exact hlt
      have hp1 := (h1.below hbr hb1) k hlk1
      have hp2 := (h2.below hbr hb2) k hlk2
      have hd1 : l1.drop k = l1[k] :: l1.drop (k + 1) := List.drop_eq_getElem_cons hlk1
      have hd2 : l2.drop k = l2[k] :: l2.drop (k + 1) := List.drop_eq_getElem_cons hlk2
      generalize l1[k] = p at hp1 hd1
      generalize l2[k] = q at hp2 hd2
      have hq := hf.out
      rw [hd1, hd2] at hq
      have he := Wn_eq p q
      have hgm : Try.prog.eqGuardType Try.prog.depth 53 = false := by kernel_rfl
      obtain ⟨a0, a1, a2, a3⟩ := hp1
      obtain ⟨d0, d1, d2, d3⟩ := hp2
      by_cases hpq : p = q
      · have hR : Hid (decide (l1.drop (k + 1) = l2.drop (k + 1)) = R) := Lib.hid (by rw [← hq]; simp [hpq])
        rw [show decide (p = q) = true by simpa using hpq] at he
        clear h1 h2 hf hd1 hd2 hq HR hpq
        go_wp2
        go_quiet (fail)
        go_wp2
        exact ⟨⟨k + 1, by omega, by go_num, hR, kDrewN hbr _⟩, by simp [intOf]; omega⟩
      · obtain rfl : R = false := by rw [← hq]; simp [hpq]
        rw [show decide (p = q) = false by simpa using hpq] at he
        clear h1 h2 hf hd1 hd2 hq HR hpq
        go_wp2
        go_quiet (fail)
        go_wp2
        go_ret
        exact ⟨rfl, kDrewN hbr _⟩
    · obtain rfl : R = true := by rw [← hf.out, List.drop_of_length_le (by rw [Hn1.out]; omega), List.drop_of_length_le (by rw [Hn2.out]; omega)]; simp
      clear h1 h2 hf HR
      go_wp2
      go_ret
      exact ⟨rfl, hbr⟩
set_option maxHeartbeats 1000000 in
theorem WindowsEqual_lens (a1 a2 : Option Addr) (n1 n2 c1 c2 : Nat) (w : World) (h1 : n1 ≤ 1048576) (h2 : n2 ≤ 1048576) (h : n1 ≠ n2) :
    Calls Try.prog 78 #[.slice a1 n1 c1, .slice a2 n2 c2] w fun e w' => e = .returned (.bool false) ∧ Below w.heap.size w w' := by
  have hne : ((n1 : Int) != (n2 : Int)) = true := by simpa using (fun e => h (by omega))
  have hne2 : ((n1 : Int) == (n2 : Int)) = false := by simpa using (fun e => h (by omega))
  go_enter Try.func78, Try.ntmps78
  go_wp2
  go_ret
  exact ⟨rfl, Below.refl _ _⟩
set_option maxHeartbeats 1000000 in
theorem WindowsEqual_none (a1 a2 : Option Addr) (c1 c2 : Nat) (w : World) :
    Calls Try.prog 78 #[.slice a1 0 c1, .slice a2 0 c2] w fun e w' => e = .returned (.bool true) ∧ Below w.heap.size w w' := by
  go_enter Try.func78, Try.ntmps78
  go_wp2
  refine wp_loop_rounds 1 ?_
  rw [rounds_succ]
  go_wp2
  go_ret
  exact ⟨rfl, Below.refl _ _⟩
theorem WindowsEqual_any (v1 v2 : Value) (l1 l2 : List Wn) (w : World) (h1 : SlWn w l1 v1) (h2 : SlWn w l2 v2) (hm1 : l1.length ≤ 1048576) (hm2 : l2.length ≤ 1048576) (R : Bool) (hR : decide (l1 = l2) = R) :
    Calls Try.prog 78 #[v1, v2] w fun e w' => e = .returned (.bool R) ∧ Below w.heap.size w w' := by
  by_cases hl : l1.length = l2.length
  · cases h1 with
    | empty a cap h =>
      subst h
      obtain rfl : l2 = [] := by cases l2 with | nil => rfl | cons => simp at hl
      obtain rfl : R = true := by rw [← hR]; simp
      cases h2 with
      | empty a2 cap2 h => exact WindowsEqual_none a a2 cap cap2 w
      | mk b o cap2 hc hb hl => exact WindowsEqual_none a _ cap cap2 w
    | mk b o cap hc hb hcap =>
      cases h2 with
      | empty a2 cap2 h =>
        subst h
        obtain rfl : l1 = [] := by cases l1 with | nil => rfl | cons => simp at hl
        obtain rfl : R = true := by rw [← hR]; simp
        exact WindowsEqual_none _ a2 cap cap2 w
      | mk b2 o2 cap2 hc2 hb2 hcap2 =>
        rw [← hl] at hcap2 ⊢
        exact WindowsEqual_eqlen b o b2 o2 _ cap cap2 l1 l2 w rfl hl.symm hc hc2 hb hb2 hcap hcap2 hm1 R hR
  · obtain rfl : R = false := by rw [← hR]; simpa using fun e => hl (by rw [e])
    have s1 : ∃ a n c, v1 = .slice a n c ∧ n = l1.length := by
      cases h1 with
      | empty a cap h => exact ⟨a, 0, cap, rfl, by rw [h]; rfl⟩
      | mk b o cap _ _ _ => exact ⟨_, _, cap, rfl, rfl⟩
    have s2 : ∃ a n c, v2 = .slice a n c ∧ n = l2.length := by
      cases h2 with
      | empty a cap h => exact ⟨a, 0, cap, rfl, by rw [h]; rfl⟩
      | mk b o cap _ _ _ => exact ⟨_, _, cap, rfl, rfl⟩
    obtain ⟨a1, n1, c1, rfl, rfl⟩ := s1
    obtain ⟨a2, n2, c2, rfl, rfl⟩ := s2
    exact WindowsEqual_lens a1 a2 _ _ c1 c2 w hm1 hm2 hl
end Go.Proofs.Ytekmdcakegfkmaa
