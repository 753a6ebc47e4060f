/- SortBoard: the mathematics. -/
import Derived.Test.YtlmnoopoohdbkaaG2
import Derived.Test.YtlmnoopoohdbkaaG4
namespace Go.Proofs.Ytlmnoopoohdbkaa
set_option linter.unusedVariables false

def ltSE (p q : Pc) : Prop := p.y < q.y ∨ (p.y = q.y ∧ p.x < q.x)
def so0 : Pc := ⟨0, 0, 0, 0, 0⟩
def soAt (l : List Pc) (x y : Nat) : List Pc := if 0 ≤ findFrom (x : Int) (y : Int) l 0 then [l.getD (findFrom (x : Int) (y : Int) l 0).toNat so0] else []
def soRow (l : List Pc) (y : Nat) : Nat → List Pc
  | 0 => []
  | k + 1 => soRow l y k ++ soAt l k y
def soAll (l : List Pc) (W : Nat) : Nat → List Pc
  | 0 => []
  | j + 1 => soAll l W j ++ soRow l j W
theorem find_cases (x y : Int) : ∀ (l : List Pc) (j : Int), (findFrom x y l j = -1 ∧ ∀ p ∈ l, ¬ (p.x = x ∧ p.y = y)) ∨ ∃ i, ∃ h : i < l.length, findFrom x y l j = j + i ∧ l[i].x = x ∧ l[i].y = y
  | [], _ => .inl ⟨rfl, fun p h => absurd h (by simp)⟩
  | p :: l, j => by
    unfold findFrom
    split
    · rename_i h
      exact .inr ⟨0, by simp, by simp, h.1, h.2⟩
    · rename_i h
      rcases find_cases x y l (j + 1) with ⟨h1, h2⟩ | ⟨i, hi, h1, h2, h3⟩
      · refine .inl ⟨h1, fun q hq => ?_⟩
        rcases List.mem_cons.1 hq with rfl | hq
        · exact h
        · exact h2 q hq
      · exact .inr ⟨i + 1, by simp; omega, by rw [h1]; push_cast; omega, by simpa using h2, by simpa using h3⟩
theorem soAt_mem {l : List Pc} {x y : Nat} {p : Pc} (h : p ∈ soAt l x y) : p ∈ l ∧ p.x = x ∧ p.y = y := by
  unfold soAt at h
  split at h
  · rename_i h0
    rcases find_cases x y l 0 with ⟨h1, _⟩ | ⟨i, hi, h1, h2, h3⟩
    · omega
    · rw [h1] at h
      have e : ((0 : Int) + (i : Int)).toNat = i := by omega
      rw [e, List.getD_eq_getElem?_getD, List.getElem?_eq_getElem hi] at h
      simp only [Option.getD_some, List.mem_singleton] at h
      subst h
      exact ⟨List.getElem_mem hi, h2, h3⟩
  · simp at h
theorem soAt_short (l : List Pc) (x y : Nat) : soAt l x y = [] ∨ ∃ p, soAt l x y = [p] := by
  unfold soAt; split
  · exact .inr ⟨_, rfl⟩
  · exact .inl rfl
theorem soRow_mem {l : List Pc} {y : Nat} {p : Pc} : ∀ {k : Nat}, p ∈ soRow l y k → p ∈ l ∧ 0 ≤ p.x ∧ p.x < k ∧ p.y = y
  | 0, h => by simp [soRow] at h
  | k + 1, h => by
    rcases List.mem_append.1 (show p ∈ soRow l y k ++ soAt l k y from h) with h | h
    · have := soRow_mem h
      exact ⟨this.1, this.2.1, by have := this.2.2.1; push_cast; omega, this.2.2.2⟩
    · have := soAt_mem h
      exact ⟨this.1, by omega, by omega, this.2.2⟩
theorem soAll_mem {l : List Pc} {W : Nat} {p : Pc} : ∀ {j : Nat}, p ∈ soAll l W j → p ∈ l ∧ p.y < j
  | 0, h => by simp [soAll] at h
  | j + 1, h => by
    rcases List.mem_append.1 (show p ∈ soAll l W j ++ soRow l j W from h) with h | h
    · have := soAll_mem h
      exact ⟨this.1, by have := this.2; push_cast; omega⟩
    · have := soRow_mem h
      exact ⟨this.1, by omega⟩
theorem soRow_pw (l : List Pc) (y : Nat) : ∀ k, (soRow l y k).Pairwise ltSE
  | 0 => List.Pairwise.nil
  | k + 1 => by
    show (soRow l y k ++ soAt l k y).Pairwise ltSE
    refine List.pairwise_append.2 ⟨soRow_pw l y k, ?_, fun p hp q hq => ?_⟩
    · rcases soAt_short l k y with h | ⟨p, h⟩ <;> rw [h] <;> simp
    · have h1 := soRow_mem hp
      have h2 := soAt_mem hq
      exact .inr ⟨by omega, by omega⟩
theorem soAll_pw (l : List Pc) (W : Nat) : ∀ j, (soAll l W j).Pairwise ltSE
  | 0 => List.Pairwise.nil
  | j + 1 => by
    show (soAll l W j ++ soRow l j W).Pairwise ltSE
    refine List.pairwise_append.2 ⟨soAll_pw l W j, soRow_pw l j W, fun p hp q hq => ?_⟩
    have h1 := soAll_mem hp
    have h2 := soRow_mem hq
    exact .inl (by omega)
theorem soRow_has {l : List Pc} {y : Nat} {p : Pc} {x : Nat} (h : p ∈ soAt l x y) : ∀ {k : Nat}, x < k → p ∈ soRow l y k
  | 0, hk => by omega
  | k + 1, hk => by
    show p ∈ soRow l y k ++ soAt l k y
    by_cases e : x = k
    · subst e; exact List.mem_append_right _ h
    · exact List.mem_append_left _ (soRow_has h (by omega))
theorem soAll_has {l : List Pc} {W y : Nat} {p : Pc} (h : p ∈ soRow l y W) : ∀ {j : Nat}, y < j → p ∈ soAll l W j
  | 0, hk => by omega
  | j + 1, hk => by
    show p ∈ soAll l W j ++ soRow l j W
    by_cases e : y = j
    · subst e; exact List.mem_append_right _ h
    · exact List.mem_append_left _ (soAll_has h (by omega))
theorem okFrom_at {wd hi : Int} {l : List Pc} : ∀ (r : List Pc) (i : Nat), okFrom wd hi l i r = true → ∀ j (h : j < r.length), okOne wd hi l (i + j) r[j] = true
  | [], _, _, j, h => by simp at h
  | p :: r, i, hk, j, h => by
    simp only [okFrom, Bool.and_eq_true] at hk
    cases j with
    | zero => exact hk.1
    | succ j =>
      have := okFrom_at r (i + 1) hk.2 j (by simpa using h)
      rw [show i + (j + 1) = i + 1 + j by omega]
      simpa using this
theorem boardOk_one {wd hi : Int} {l : List Pc} (h : boardOk wd hi l = true) (i : Nat) (hl : i < l.length) : (0 ≤ l[i].x ∧ l[i].x ≤ wd - 1 ∧ 0 ≤ l[i].y ∧ l[i].y ≤ hi - 1) ∧ findFrom l[i].x l[i].y l 0 = i := by
  simp only [boardOk, Bool.and_eq_true] at h
  have := okFrom_at l 0 h.2 i hl
  simp only [okOne, Bool.and_eq_true, decide_eq_true_eq, Nat.zero_add] at this
  exact ⟨this.1.2, this.2⟩
theorem soAll_iff {W H : Nat} {l : List Pc} (h : boardOk W H l = true) (p : Pc) : p ∈ soAll l W H ↔ p ∈ l := by
  constructor
  · intro hp; exact (soAll_mem hp).1
  · intro hp
    obtain ⟨i, hi, rfl⟩ := List.getElem_of_mem hp
    obtain ⟨⟨a1, a2, a3, a4⟩, hf⟩ := boardOk_one h i hi
    obtain ⟨x, hx⟩ : ∃ x : Nat, l[i].x = x := ⟨l[i].x.toNat, by omega⟩
    obtain ⟨y, hy⟩ : ∃ y : Nat, l[i].y = y := ⟨l[i].y.toNat, by omega⟩
    refine soAll_has (y := y) (soRow_has (x := x) ?_ (by omega)) (by omega)
    unfold soAt
    rw [← hx, ← hy, hf, if_pos (by omega), Int.toNat_natCast, List.getD_eq_getElem?_getD, List.getElem?_eq_getElem hi]
    simp
theorem so_uniq : ∀ (a b : List Pc), a.Pairwise ltSE → b.Pairwise ltSE → (∀ p, p ∈ a ↔ p ∈ b) → a = b
  | [], [], _, _, _ => rfl
  | [], q :: b, _, _, h => absurd ((h q).2 (List.mem_cons_self ..)) (by simp)
  | p :: a, [], _, _, h => absurd ((h p).1 (List.mem_cons_self ..)) (by simp)
  | p :: a, q :: b, ha, hb, h => by
    rw [List.pairwise_cons] at ha hb
    have hirr : ∀ x : Pc, ¬ ltSE x x := fun x => by unfold ltSE; omega
    have e : p = q := by
      rcases List.mem_cons.1 ((h p).1 (List.mem_cons_self ..)) with e | h1
      · exact e
      · rcases List.mem_cons.1 ((h q).2 (List.mem_cons_self ..)) with e | h2
        · exact e.symm
        · have g1 := hb.1 p h1
          have g2 := ha.1 q h2
          unfold ltSE at g1 g2
          omega
    subst e
    rw [so_uniq a b ha.2 hb.2 (fun r => ⟨fun hr => ?_, fun hr => ?_⟩)]
    · rcases List.mem_cons.1 ((h r).1 (List.mem_cons_of_mem _ hr)) with rfl | h1
      · exact absurd (ha.1 r hr) (hirr r)
      · exact h1
    · rcases List.mem_cons.1 ((h r).2 (List.mem_cons_of_mem _ hr)) with rfl | h1
      · exact absurd (hb.1 r hr) (hirr r)
      · exact h1
/-- a list that has the pieces of a valid board, none less than one before it, is the model's -/
theorem so_sorted {W H : Nat} {l r : List Pc} (h : boardOk W H l = true) (hp : r.Perm l) (hs : r.Pairwise (fun p q => ¬ ltSE q p)) : r = soAll l W H := by
  have hd : l.Pairwise (fun p q => ¬ (p.x = q.x ∧ p.y = q.y)) := by
    rw [List.pairwise_iff_getElem]
    intro i j hi hj hij e
    have h1 := (boardOk_one h i hi).2
    have h2 := (boardOk_one h j hj).2
    rw [e.1, e.2, h2] at h1
    omega
  have hdr : r.Pairwise (fun p q => ¬ (p.x = q.x ∧ p.y = q.y)) := (hp.pairwise_iff (fun {a b} h g => h ⟨g.1.symm, g.2.symm⟩)).2 hd
  refine so_uniq _ _ ?_ (soAll_pw l W H) (fun p => ⟨fun g => (soAll_iff h p).2 (hp.mem_iff.1 g), fun g => hp.mem_iff.2 ((soAll_iff h p).1 g)⟩)
  refine (hs.and hdr).imp ?_
  rintro p q ⟨g1, g2⟩
  unfold ltSE at *
  omega
def sortQ (R : Bool) (wd hi : Int) (l : List Pc) : Int × Int × List Pc × Int := if R = true then (wd, hi, soAll l wd.toNat hi.toNat, 0) else (0, 0, [], 1)
theorem soRow_len (l : List Pc) (y : Nat) : ∀ k, (soRow l y k).length ≤ k
  | 0 => Nat.le_refl _
  | k + 1 => by
    have h1 := soRow_len l y k
    have h2 : (soAt l k y).length ≤ 1 := by rcases soAt_short l k y with h | ⟨p, h⟩ <;> rw [h] <;> simp
    show (soRow l y k ++ soAt l k y).length ≤ k + 1
    rw [List.length_append]; omega
theorem soAll_len (l : List Pc) (W : Nat) : ∀ j, (soAll l W j).length ≤ j * W
  | 0 => Nat.zero_le _
  | j + 1 => by
    have h1 := soAll_len l W j
    have h2 := soRow_len l j W
    show (soAll l W j ++ soRow l j W).length ≤ (j + 1) * W
    rw [List.length_append, Nat.succ_mul]; omega
theorem board_sidesS {wd hi : Int} {l : List Pc} (h : boardOk wd hi l = true) : 1 ≤ wd ∧ wd ≤ 24 ∧ 1 ≤ hi ∧ hi ≤ 24 := by
  simp only [boardOk, Bool.and_eq_true, decide_eq_true_eq] at h
  omega
theorem sortQ_ok {R : Bool} {wd hi : Int} {l : List Pc} {Wr Hr : Int} {lr : List Pc} {C : Int} (h8 : All8 l) (hR : R = boardOk wd hi l) (h : sortQ R wd hi l = (Wr, Hr, lr, C)) : All8 lr ∧ lr.length ≤ 1048576 := by
  unfold sortQ at h
  split at h
  · rename_i h1
    obtain ⟨_, _, rfl, _⟩ := four_inj h
    refine ⟨fun p hp => h8 p (soAll_mem hp).1, ?_⟩
    have h2 := soAll_len l wd.toNat hi.toNat
    have h3 := board_sidesS (hR.symm.trans h1)
    have h4 : hi.toNat * wd.toNat ≤ 24 * 24 := Nat.mul_le_mul (by omega) (by omega)
    omega
  · obtain ⟨_, _, rfl, _⟩ := four_inj h
    exact ⟨fun p h => absurd h (by simp), by simp⟩
end Go.Proofs.Ytlmnoopoohdbkaa
