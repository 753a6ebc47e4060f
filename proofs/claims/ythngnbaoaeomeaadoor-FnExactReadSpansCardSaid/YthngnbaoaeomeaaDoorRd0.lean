/- Reading texts: splitting at one byte, numerals read again. Plain mathematics. -/
import Derived.Lib.SplitLaws
import Derived.Lib.IndexBytes
import Derived.Lib.ParseIntB
import Derived.Lib.Strings
import Derived.Test.YthngnbaoaeomeaaDoorTx0
namespace Go.Proofs.YthngnbaoaeomeaaDoor
open Go.ChangeShapes Go.WideShapes Go.ChangeAt Go.RowKit
set_option linter.unusedVariables false

def spl (c : UInt8) : List UInt8 → List (List UInt8)
  | [] => [[]]
  | b :: l => if b = c then [] :: spl c l else (b :: (spl c l).headD []) :: (spl c l).tail
theorem spl_nil (c : UInt8) : spl c [] = [[]] := rfl
theorem spl_at (c : UInt8) (l : List UInt8) : spl c (c :: l) = [] :: spl c l := by rw [spl, if_pos rfl]
theorem spl_ne {c b : UInt8} (h : b ≠ c) (l : List UInt8) : spl c (b :: l) = (b :: (spl c l).headD []) :: (spl c l).tail := by rw [spl, if_neg h]
theorem spl_some (c : UInt8) (l : List UInt8) : ∃ x r, spl c l = x :: r := by
  cases l with
  | nil => exact ⟨_, _, rfl⟩
  | cons b l =>
    by_cases h : b = c
    · subst h; exact ⟨_, _, spl_at _ _⟩
    · exact ⟨_, _, spl_ne h l⟩
theorem spl_word {c : UInt8} : ∀ {x : List UInt8}, c ∉ x → spl c x = [x]
  | [], _ => rfl
  | b :: l, h => by
    have h1 : b ≠ c := fun e => h (by rw [e]; exact List.mem_cons_self ..)
    have h2 : c ∉ l := fun e => h (List.mem_cons_of_mem _ e)
    rw [spl_ne h1, spl_word h2]; rfl
theorem spl_app {c : UInt8} : ∀ {x : List UInt8} (l : List UInt8), c ∉ x → spl c (x ++ c :: l) = x :: spl c l
  | [], l, _ => spl_at c l
  | b :: x, l, h => by
    have h1 : b ≠ c := fun e => h (by rw [e]; exact List.mem_cons_self ..)
    have h2 : c ∉ x := fun e => h (List.mem_cons_of_mem _ e)
    rw [List.cons_append, spl_ne h1, spl_app l h2]; rfl
theorem spl_join {c : UInt8} : ∀ {ws : List (List UInt8)}, ws ≠ [] → (∀ x ∈ ws, c ∉ x) → spl c (Lib.join ws [c]) = ws
  | [], h, _ => absurd rfl h
  | [x], _, h => by
    have h1 := h x (List.mem_cons_self ..)
    rw [Lib.join_cons]
    simp only [Lib.joinTail, List.map_nil, List.flatten_nil, List.append_nil]
    exact spl_word h1
  | x :: y :: r, _, h => by
    have h1 := h x (List.mem_cons_self ..)
    have e : Lib.join (x :: y :: r) [c] = x ++ c :: Lib.join (y :: r) [c] := by
      rw [Lib.join_cons, Lib.join_cons]; simp [Lib.joinTail]
    rw [e, spl_app _ h1, spl_join (by simp) (fun z hz => h z (List.mem_cons_of_mem _ hz))]
theorem join_spl (c : UInt8) : ∀ s : List UInt8, Lib.join (spl c s) [c] = s
  | [] => rfl
  | b :: l => by
    have ih := join_spl c l
    obtain ⟨x, r, e⟩ := spl_some c l
    by_cases h : b = c
    · subst h
      rw [spl_at, e]
      rw [e, Lib.join_cons] at ih
      rw [Lib.join_cons]
      simpa [Lib.joinTail] using ih
    · rw [spl_ne h, e]
      rw [e, Lib.join_cons] at ih
      rw [Lib.join_cons]
      simpa [Lib.joinTail] using ih
theorem spl_length (c : UInt8) : ∀ s : List UInt8, (spl c s).length ≤ s.length + 1
  | [] => by simp [spl]
  | b :: l => by
    have ih := spl_length c l
    by_cases h : b = c
    · subst h; rw [spl_at]; simp only [List.length_cons]; omega
    · rw [spl_ne h]; simp only [List.length_cons, List.length_tail]; omega
theorem spl_short (c : UInt8) : ∀ s : List UInt8, ∀ x ∈ spl c s, x.length ≤ s.length
  | [], x, hx => by simp [spl] at hx; subst hx; simp
  | b :: l, x, hx => by
    have ih := spl_short c l
    obtain ⟨y, r, e⟩ := spl_some c l
    rw [e] at ih
    by_cases h : b = c
    · subst h
      rw [spl_at, e] at hx
      rcases List.mem_cons.1 hx with rfl | hx
      · simp
      · have := ih x hx; simp only [List.length_cons]; omega
    · rw [spl_ne h, e] at hx
      rcases List.mem_cons.1 hx with rfl | hx
      · have := ih y (List.mem_cons_self ..); simp only [List.headD_cons, List.length_cons]; omega
      · have := ih x (List.mem_cons_of_mem _ hx); simp only [List.length_cons]; omega
theorem splitK_one {c b : UInt8} (h : b ≠ c) (l : List UInt8) : ∀ k, Lib.splitK [c] 0 k (b :: l) = (b :: (Lib.splitK [c] 0 k l).headD []) :: (Lib.splitK [c] 0 k l).tail
  | 0 => rfl
  | k + 1 => by
    have hb : (b == c) = false := beq_eq_false_iff_ne.2 h
    have e1 : Lib.index (b :: l) [c] = if Lib.index l [c] == -1 then -1 else Lib.index l [c] + 1 := by
      rw [Lib.index_one, Lib.index_one, Lib.indexByte, hb]; rfl
    by_cases hm : Lib.index l [c] = -1
    · unfold Lib.splitK
      rw [e1, hm]; rfl
    · have hg := Lib.index_ge l [c]
      have hbq : (Lib.index l [c] == -1) = false := beq_eq_false_iff_ne.2 hm
      obtain ⟨i, hi⟩ : ∃ i : Nat, Lib.index l [c] = i := ⟨(Lib.index l [c]).toNat, by omega⟩
      unfold Lib.splitK
      rw [e1, hi]
      have h2 : (((i : Nat) : Int) == -1) = false := beq_eq_false_iff_ne.2 (by omega)
      have h3 : (((i : Nat) : Int) + 1 == -1) = false := beq_eq_false_iff_ne.2 (by omega)
      simp only [h2, h3, Bool.false_eq_true, if_false]
      have e4 : (((i : Nat) : Int) + 1).toNat = i + 1 := by omega
      rw [e4, Int.toNat_natCast]
      simp
theorem split_spl (c : UInt8) : ∀ s : List UInt8, Lib.splitK [c] 0 (Lib.count s [c]) s = spl c s
  | [] => by
    have : Lib.count ([] : List UInt8) [c] = 0 := by rw [Lib.count_one]; rfl
    rw [this]; rfl
  | b :: l => by
    have ih := split_spl c l
    by_cases h : b = c
    · subst h
      have e1 : Lib.index (b :: l) [b] = ((0 : Nat) : Int) := by
        rw [Lib.index_one, Lib.indexByte, if_pos (beq_self_eq_true b)]; rfl
      rw [Lib.count_hit (by simp) e1, Nat.add_comm, Lib.splitK, e1, spl_at]
      rw [if_neg (by decide)]
      simp only [List.length_singleton, Nat.zero_add, Int.toNat_natCast, List.drop_succ_cons, List.drop_zero, List.take_zero]
      rw [← ih]
    · rw [spl_ne h, splitK_one h, show Lib.count (b :: l) [c] = Lib.count l [c] by rw [Lib.count_one, Lib.count_one]; exact List.count_cons_of_ne h, ih]
theorem splB (c : UInt8) (s : ByteArray) : (Lib.splitB (bsT [c]) 0 (Lib.countB s (bsT [c])) s).map (·.data.toList) = spl c s.data.toList := by
  have h1 : (bsT [c]).data.toList = [c] := bsT_list [c]
  have h2 : Lib.countB s (bsT [c]) = Lib.count s.data.toList [c] := by unfold Lib.countB; rw [h1]
  rw [Lib.splitB_data, h1, h2]
  exact split_spl c s.data.toList
theorem bsT_of (s : ByteArray) : bsT s.data.toList = s := by
  apply ByteArray.ext; simp [bsT]
theorem splB2 (c : UInt8) (s : ByteArray) : (Lib.splitB (bsT [c]) 0 (Lib.countB s (bsT [c])) s).map Value.string = (spl c s.data.toList).map fun x => Value.string (bsT x) := by
  rw [← splB, List.map_map]
  apply List.map_congr_left
  intro x _
  simp [bsT_of]

-- numerals
def isDig (b : UInt8) : Prop := 48 ≤ b.toNat ∧ b.toNat ≤ 57
def digS (a : Nat) (b : UInt8) : Nat := 10 * a + (b.toNat - 48)
def valA (a : Nat) (l : List UInt8) : Nat := l.foldl digS a
theorem valA_nil (a : Nat) : valA a [] = a := by unfold valA; exact List.foldl_nil
theorem digS_def (a : Nat) (b : UInt8) : digS a b = 10 * a + (b.toNat - 48) := by unfold digS; exact Eq.refl _
theorem valA_cons (a : Nat) (b : UInt8) (l : List UInt8) : valA a (b :: l) = valA (10 * a + (b.toNat - 48)) l := by
  have h : valA a (b :: l) = valA (digS a b) l := by unfold valA; exact List.foldl_cons ..
  rw [h, digS_def]
theorem valA_snoc (b : UInt8) (l : List UInt8) (a : Nat) : valA a (l ++ [b]) = 10 * valA a l + (b.toNat - 48) := by
  have h : valA a (l ++ [b]) = digS (valA a l) b := by unfold valA; rw [List.foldl_append]; exact List.foldl_cons ..
  rw [h, digS_def]
theorem valA_ge : ∀ (l : List UInt8) (a : Nat), a ≤ valA a l
  | [], a => by rw [valA_nil]; exact Nat.le_refl _
  | x :: l, a => by
    rw [valA_cons]
    exact Nat.le_trans (by omega) (valA_ge l _)
theorem dec_snoc {n : Nat} (h : 10 ≤ n) : Lib.decDigits n = Lib.decDigits (n / 10) ++ [UInt8.ofNat (48 + n % 10)] := by
  rw [Lib.decDigits, dif_neg (by omega)]
theorem dec_one {n : Nat} (h : n < 10) : Lib.decDigits n = [UInt8.ofNat (48 + n)] := by
  rw [Lib.decDigits, dif_pos h]
theorem ofNat_dig {n : Nat} (h : n < 10) : (UInt8.ofNat (48 + n)).toNat = 48 + n := by
  simp; omega
theorem dec_dig : ∀ (n : Nat), ∀ b ∈ Lib.decDigits n, isDig b := by
  intro n
  induction n using Nat.strongRecOn with
  | ind n ih =>
    intro b hb
    by_cases h : n < 10
    · rw [dec_one h] at hb
      obtain rfl := List.mem_singleton.1 hb
      unfold isDig; rw [ofNat_dig h]; omega
    · rw [dec_snoc (by omega)] at hb
      rcases List.mem_append.1 hb with hb | hb
      · exact ih (n / 10) (by omega) b hb
      · obtain rfl := List.mem_singleton.1 hb
        unfold isDig; rw [ofNat_dig (by omega)]; omega
theorem dec_val : ∀ (n : Nat), valA 0 (Lib.decDigits n) = n := by
  intro n
  induction n using Nat.strongRecOn with
  | ind n ih =>
    by_cases h : n < 10
    · rw [dec_one h, valA_cons, valA_nil, ofNat_dig h]; omega
    · rw [dec_snoc (by omega), valA_snoc, ih (n / 10) (by omega), ofNat_dig (by omega)]; omega
theorem dec_ne (n : Nat) : Lib.decDigits n ≠ [] := by
  by_cases h : n < 10
  · rw [dec_one h]; simp
  · rw [dec_snoc (by omega)]; simp
theorem dec_head : ∀ (n : Nat), (∃ d, n = d ∧ d < 10) ∨ (∃ b r, Lib.decDigits n = b :: r ∧ b.toNat ≠ 48) := by
  intro n
  induction n using Nat.strongRecOn with
  | ind n ih =>
    by_cases h : n < 10
    · exact .inl ⟨n, rfl, h⟩
    · refine .inr ?_
      rcases ih (n / 10) (by omega) with ⟨d, h1, h2⟩ | ⟨b, r, h1, h2⟩
      · refine ⟨_, _, by rw [dec_snoc (by omega), dec_one (by omega)]; rfl, ?_⟩
        rw [ofNat_dig (by omega)]; omega
      · exact ⟨b, r ++ [UInt8.ofNat (48 + n % 10)], by rw [dec_snoc (by omega), h1]; rfl, h2⟩
theorem dig_eq {b : UInt8} (h : isDig b) : UInt8.ofNat (48 + (b.toNat - 48)) = b := by
  unfold isDig at h
  apply UInt8.toNat.inj
  rw [show 48 + (b.toNat - 48) = b.toNat by omega]
  simp
theorem val_dec : ∀ (k : Nat) (s : List UInt8), s.length = k → s ≠ [] → (∀ b ∈ s, isDig b) → (s.length = 1 ∨ (s.headD 0).toNat ≠ 48) → Lib.decDigits (valA 0 s) = s
  | 0, s, hk, hn, _, _ => absurd (List.length_eq_zero_iff.1 hk) hn
  | k + 1, s, hk, hn, hd, hh => by
    obtain ⟨l, b, rfl⟩ : ∃ l b, s = l ++ [b] := ⟨s.dropLast, s.getLast hn, (List.dropLast_concat_getLast hn).symm⟩
    have hb : isDig b := hd b (by simp)
    have hl : l.length = k := by simpa using hk
    rw [valA_snoc]
    by_cases hl0 : l = []
    · subst hl0
      rw [valA_nil, List.nil_append]
      have h10 : b.toNat - 48 < 10 := by unfold isDig at hb; omega
      rw [show 10 * 0 + (b.toNat - 48) = b.toNat - 48 by omega, dec_one h10, dig_eq hb]
    · obtain ⟨x, r, rfl⟩ : ∃ x r, l = x :: r := by cases l with | nil => exact absurd rfl hl0 | cons x r => exact ⟨x, r, rfl⟩
      have hx : x.toNat ≠ 48 := by
        rcases hh with hh | hh
        · simp at hh
        · simpa using hh
      have hxd : isDig x := hd x (by simp)
      have ih := val_dec k (x :: r) hl hl0 (fun y hy => hd y (List.mem_append_left _ hy)) (.inr (by simpa using hx))
      have hv : 1 ≤ valA 0 (x :: r) := by
        have := valA_ge r (10 * 0 + (x.toNat - 48))
        rw [valA_cons]
        unfold isDig at hxd
        omega
      have h10 : b.toNat - 48 < 10 := by unfold isDig at hb; omega
      generalize valA 0 (x :: r) = v at ih hv
      rw [dec_snoc (by omega), show (10 * v + (b.toNat - 48)) / 10 = v by omega, show (10 * v + (b.toNat - 48)) % 10 = b.toNat - 48 by omega, ih, dig_eq hb]
theorem parse_val (M : Nat) (hM : M < 1000000) : ∀ (l : List UInt8) (a : Nat), (∀ b ∈ l, isDig b) → valA a l ≤ M → Lib.parseUintM M a l = .ok (valA a l)
  | [], a, _, _ => by rw [valA_nil]; rfl
  | b :: l, a, hd, hv => by
    have hb := hd b (List.mem_cons_self ..)
    unfold isDig at hb
    rw [valA_cons] at hv
    have hg := valA_ge l (10 * a + (b.toNat - 48))
    unfold Lib.parseUintM
    rw [if_pos hb, if_neg (by omega), if_neg (by omega), valA_cons, show a * 10 + (b.toNat - 48) = 10 * a + (b.toNat - 48) by omega]
    exact parse_val M hM l _ (fun y hy => hd y (List.mem_cons_of_mem _ hy)) hv
theorem parseInt_dec {B : Nat} (hB : B = 8 ∨ B = 16) {n : Nat} (h : n < 2 ^ (B - 1)) : Lib.parseIntB B (Lib.decDigits n) = .ok (n : Int) := by
  have hM : 2 ^ B - 1 < 1000000 := by rcases hB with rfl | rfl <;> decide
  have hn : n ≤ 2 ^ B - 1 := by rcases hB with rfl | rfl <;> (simp only [show (8 - 1 : Nat) = 7 from rfl, show (16 - 1 : Nat) = 15 from rfl] at h; omega)
  have hp := parse_val (2 ^ B - 1) hM (Lib.decDigits n) 0 (dec_dig n) (by rw [dec_val]; exact hn)
  rw [dec_val] at hp
  have hd := dec_dig n
  have hne := dec_ne n
  generalize Lib.decDigits n = s at hp hd hne
  cases s with
  | nil => exact absurd rfl hne
  | cons c r =>
    have hc := hd c (List.mem_cons_self ..)
    unfold isDig at hc
    have h43 : ¬ c.toNat = 43 := by omega
    have h45 : ¬ c.toNat = 45 := by omega
    have hno : ¬ 2 ^ (B - 1) ≤ n := by omega
    simp only [Lib.parseIntB, Lib.parseUintB, h43, h45, or_self, if_false, hp, reduceCtorEq, not_false_eq_true, true_and, false_and, hno]
theorem decL_dec (n : Nat) : decL (n : Int) = Lib.decDigits n := by unfold decL; rw [Int.toNat_natCast]
theorem decL_dig (n : Int) : ∀ b ∈ decL n, isDig b := dec_dig n.toNat
theorem decL_no {c : UInt8} (hc : c.toNat < 48) (n : Int) : c ∉ decL n := fun h => by
  have := decL_dig n c h
  unfold isDig at this; omega
theorem decL_inj {a b : Int} (ha : 0 ≤ a) (hb : 0 ≤ b) (h : decL a = decL b) : a = b := by
  unfold decL at h
  have := congrArg (valA 0) h
  rw [dec_val, dec_val] at this
  omega
theorem decL_val {n : Int} (h : 0 ≤ n) : (valA 0 (decL n) : Int) = n := by unfold decL; rw [dec_val]; omega
theorem side_no {c : UInt8} (hc : c.toNat < 97) (k : Int) : c ∉ sideWL k := by
  intro h
  have : ∀ b ∈ sideWL k, 97 ≤ b.toNat := by unfold sideWL; split <;> decide
  have := this c h; omega
theorem kind_no {c : UInt8} (hc : c.toNat < 97) (k : Int) : c ∉ kindWL k := by
  intro h
  have : ∀ b ∈ kindWL k, 97 ≤ b.toNat := by unfold kindWL; split <;> decide
  have := this c h; omega

-- numerals as the model reads them
def digB (b : UInt8) : Bool := decide (48 ≤ b.toNat) && decide (b.toNat ≤ 57)
theorem digB_iff {b : UInt8} : digB b = true ↔ isDig b := by unfold digB isDig; simp
def numOk (s : List UInt8) : Bool := !s.isEmpty && decide (s.length ≤ 10) && (decide (s.length = 1) || decide ((s.headD 0).toNat ≠ 48)) && s.all digB
theorem numOk_dec {s : List UInt8} (h : numOk s = true) : decL (valA 0 s : Int) = s := by
  unfold numOk at h
  simp only [Bool.and_eq_true, Bool.or_eq_true, decide_eq_true_eq, List.all_eq_true, Bool.not_eq_true', List.isEmpty_eq_false_iff] at h
  obtain ⟨⟨⟨h1, h2⟩, h3⟩, h4⟩ := h
  rw [decL_dec]
  exact val_dec s.length s rfl h1 (fun b hb => digB_iff.1 (h4 b hb)) h3
theorem decL_ne (n : Int) : decL n ≠ [] := dec_ne n.toNat
theorem dec_head1 (n : Nat) : (Lib.decDigits n).length = 1 ∨ ((Lib.decDigits n).headD 0).toNat ≠ 48 := by
  rcases dec_head n with ⟨d, h1, h2⟩ | ⟨b, r, h1, h2⟩
  · exact .inl (by rw [h1, dec_one h2]; rfl)
  · exact .inr (by rw [h1]; exact h2)
theorem numOk_of {n : Int} (h : n < 10000) : numOk (decL n) = true := by
  have h1 := decL_len4 h
  have h2 := decL_ne n
  have h3 := dec_head1 n.toNat
  unfold numOk
  simp only [Bool.and_eq_true, Bool.or_eq_true, decide_eq_true_eq, List.all_eq_true, Bool.not_eq_true', List.isEmpty_eq_false_iff]
  exact ⟨⟨⟨h2, by omega⟩, h3⟩, fun b hb => digB_iff.2 (decL_dig n b hb)⟩
theorem numOk_not {s : List UInt8} (h : numOk s = false) {n : Int} (hn : n < 10000) : s ≠ decL n := fun e => by rw [e, numOk_of hn] at h; cases h
theorem valA_lt : ∀ (s : List UInt8), (∀ b ∈ s, isDig b) → valA 0 s < 10 ^ s.length := by
  intro s
  have key : ∀ (s : List UInt8) (a : Nat), (∀ b ∈ s, isDig b) → valA a s < (a + 1) * 10 ^ s.length := by
    intro s
    induction s with
    | nil => intro a _; rw [valA_nil]; simp
    | cons b l ih =>
      intro a hd
      have hb := hd b (List.mem_cons_self ..)
      unfold isDig at hb
      rw [valA_cons]
      have h1 := ih (10 * a + (b.toNat - 48)) (fun y hy => hd y (List.mem_cons_of_mem _ hy))
      refine Nat.lt_of_lt_of_le h1 ?_
      rw [List.length_cons, Nat.pow_succ, Nat.mul_comm (10 ^ l.length) 10, ← Nat.mul_assoc]
      exact Nat.mul_le_mul_right _ (by omega)
  intro h
  have := key s 0 h
  simpa using this
theorem numOk_lt {s : List UInt8} (h : numOk s = true) : valA 0 s < 10000000000 := by
  have h5 := h
  unfold numOk at h
  simp only [Bool.and_eq_true, Bool.or_eq_true, decide_eq_true_eq, List.all_eq_true, Bool.not_eq_true', List.isEmpty_eq_false_iff] at h
  obtain ⟨⟨⟨h1, h2⟩, h3⟩, h4⟩ := h
  have h6 := valA_lt s (fun b hb => digB_iff.1 (h4 b hb))
  refine Nat.lt_of_lt_of_le h6 ?_
  exact Nat.pow_le_pow_right (by decide) h2

-- lines
def endC (c : UInt8) (x : List UInt8) : List UInt8 := x ++ [c]
theorem spl_lines {c : UInt8} : ∀ {xs : List (List UInt8)}, (∀ x ∈ xs, c ∉ x) → spl c (xs.flatMap (endC c)) = xs ++ [[]]
  | [], _ => rfl
  | x :: xs, h => by
    rw [List.flatMap_cons]
    unfold endC
    rw [List.append_assoc, List.singleton_append, spl_app _ (h x (List.mem_cons_self ..))]
    have := spl_lines (c := c) (xs := xs) (fun y hy => h y (List.mem_cons_of_mem _ hy))
    unfold endC at this
    rw [this]
    rfl
theorem lines_join {c : UInt8} : ∀ (xs : List (List UInt8)), Lib.join (xs ++ [[]]) [c] = xs.flatMap (endC c)
  | [] => rfl
  | x :: xs => by
    have ih := lines_join (c := c) xs
    rw [List.flatMap_cons, ← ih]
    unfold endC
    cases xs with
    | nil => rw [List.nil_append, List.cons_append, List.nil_append, Lib.join_cons, Lib.join_cons]; simp [Lib.joinTail]
    | cons y r => rw [List.cons_append, List.cons_append, Lib.join_cons, Lib.join_cons]; simp [Lib.joinTail]
theorem lines_back {c : UInt8} {s : List UInt8} {xs : List (List UInt8)} (h : spl c s = xs ++ [[]]) : s = xs.flatMap (endC c) := by
  rw [← join_spl c s, h, lines_join]
theorem spl_back {c : UInt8} {s : List UInt8} {ws : List (List UInt8)} (h : spl c s = ws) : s = Lib.join ws [c] := by rw [← join_spl c s, h]
theorem trim_lines {c : UInt8} {xs : List (List UInt8)} (h0 : xs ≠ []) (h : ∀ x ∈ xs, c ∉ x) : spl c (Lib.trimSuffix (xs.flatMap (endC c)) [c]) = xs := by
  obtain ⟨ys, z, rfl⟩ : ∃ ys z, xs = ys ++ [z] := ⟨xs.dropLast, xs.getLast h0, (List.dropLast_concat_getLast h0).symm⟩
  have e : (ys ++ [z]).flatMap (endC c) = (ys.flatMap (endC c) ++ z) ++ [c] := by
    rw [List.flatMap_append]; simp [endC]
  have e2 : Lib.trimSuffix ((ys.flatMap (endC c) ++ z) ++ [c]) [c] = ys.flatMap (endC c) ++ z := by
    generalize ys.flatMap (endC c) ++ z = a
    unfold Lib.trimSuffix Lib.hasSuffix
    rw [if_pos (List.isSuffixOf_iff_suffix.2 (List.suffix_append a [c]))]
    simp
  have e3 : ys.flatMap (endC c) ++ z = Lib.join (ys ++ [z]) [c] := by
    clear h h0 e e2
    induction ys with
    | nil => rw [List.nil_append, Lib.join_cons]; simp [Lib.joinTail]
    | cons y r ih =>
      rw [List.flatMap_cons, List.append_assoc, ih]
      unfold endC
      cases r with
      | nil => rw [List.nil_append, List.cons_append, List.nil_append, Lib.join_cons, Lib.join_cons]; simp [Lib.joinTail]
      | cons q r => rw [List.cons_append, List.cons_append, Lib.join_cons, Lib.join_cons]; simp [Lib.joinTail]
  rw [e, e2, e3]
  exact spl_join h0 h
end Go.Proofs.YthngnbaoaeomeaaDoor
