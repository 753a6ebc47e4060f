/- Nodes with the same table made one: the mathematics of both sides. -/
import Derived.Test.YtdnjamlibnmpfaaG20
import Derived.Test.YtdnjamlibnmpfaaG21
import Derived.Test.YtdnjamlibnmpfaaTr0
namespace Go.Proofs.Ytdnjamlibnmpfaa
open Go.ChangeShapes Go.WideShapes Go.ChangeAt Go.RowKit Go.Joins Go.Deep
set_option linter.unusedVariables false
set_option linter.unusedSimpArgs false

/-- the tables kept, the nodes kept, the places -/
structure MgS where
  K : List Int
  M : List Nd
  P : List Int
def atP (P : List Int) : Nat → Int := fun s => P.getD s 0
def mgStep (S : MgS) (x : Nd) (t : Int) : MgS :=
  if S.K.idxOf t < S.K.length then ⟨S.K, S.M, S.P ++ [(S.K.idxOf t : Int)]⟩
  else ⟨S.K ++ [t], S.M ++ [relT (atP S.P) x], S.P ++ [(S.K.length : Int)]⟩
def mgA (n : Nat) : List Nd → List Int → MgS → MgS
  | [], _, S => S
  | x :: l, A, S => mgA n l (A ++ [tabOf n A x]) (mgStep S x (tabOf n A x))
def mg0 : MgS := ⟨[], [], []⟩
def mgOf (n : Nat) (l : List Nd) : MgS := mgA n l [] mg0
theorem mgA_step {n : Nat} {l : List Nd} {A : List Int} {S : MgS} {j : Nat} {x : Nd} (h : j < l.length) (hx : l[j] = x) : mgA n (l.drop j) A S = mgA n (l.drop (j + 1)) (A ++ [tabOf n A x]) (mgStep S x (tabOf n A x)) := by
  rw [List.drop_eq_getElem_cons h, mgA, hx]
theorem mgA_end {n : Nat} {l : List Nd} {A : List Int} {S : MgS} {j : Nat} (h : l.length ≤ j) : mgA n (l.drop j) A S = S := by rw [List.drop_of_length_le h]; rfl
theorem tabsL_pre (n : Nat) : ∀ (l : List Nd) (acc : List Int) (k : Nat), k < acc.length → (tabsL n l acc).getD k 0 = acc.getD k 0
  | [], acc, k, h => rfl
  | x :: l, acc, k, h => by
    rw [tabsL, tabsL_pre n l _ k (by simp; omega)]
    simp only [List.getD_eq_getElem?_getD]
    rw [List.getElem?_append_left h]
theorem tabsL_at {n : Nat} {l : List Nd} {A T : List Int} {j : Nat} {x : Nd} (h : j < l.length) (hx : l[j] = x) (hA : A.length = j) (hT : tabsL n (l.drop j) A = T) : T.getD j 0 = tabOf n A x := by
  rw [List.drop_eq_getElem_cons h, tabsL, hx] at hT
  rw [← hT, tabsL_pre n _ _ j (by simp; omega)]
  simp only [List.getD_eq_getElem?_getD]
  rw [List.getElem?_append_right (by omega), hA]
  simp
theorem getD_app {l : List Int} {k : Nat} (h : k < l.length) (t : Int) : (l ++ [t]).getD k 0 = l.getD k 0 := by
  simp only [List.getD_eq_getElem?_getD]
  rw [List.getElem?_append_left h]
theorem getD_last (l : List Int) (t : Int) : (l ++ [t]).getD l.length 0 = t := by
  simp only [List.getD_eq_getElem?_getD]
  rw [List.getElem?_append_right (Nat.le_refl _)]
  simp
theorem getD_idxOf {l : List Int} {t : Int} (h : l.idxOf t < l.length) : l.getD (l.idxOf t) 0 = t := by
  rw [getD_at h]
  exact List.getElem_idxOf h
/-- the table of a node speaks of the places that it names alone -/
theorem tabOf_app {n m : Nat} {K : List Int} {x : Nd} (t : Int) (hm : K.length = m) (h : nodeOk n m x = true) : tabOf n (K ++ [t]) x = tabOf n K x := by
  unfold tabOf
  rcases nodeOk_cases h with ⟨k0, hA, hB⟩ | ⟨k1, hA, hB⟩ | ⟨k2, hA, hB⟩
  · rw [if_pos k0, if_pos k0]
  · rw [if_neg (by omega), if_neg (by omega), if_neg (by omega), if_neg (by omega), if_neg (by omega), if_neg (by omega)]
  · rw [getD_app (show x.a.toNat < K.length by omega), getD_app (show x.b.toNat < K.length by omega)]
theorem nodeOk_mono {ni : Int} {m m' : Nat} {x : Nd} (h : nodeOk ni m x = true) (hm : m ≤ m') : nodeOk ni m' x = true := by
  unfold nodeOk
  rcases nodeOk_cases h with ⟨k0, hA, hB⟩ | ⟨k1, hA, hB⟩ | ⟨k2, hA, hB⟩
  · rw [if_pos k0]; simp; omega
  · rw [if_neg (by omega), if_pos k1]; simp; omega
  · rw [if_neg (by omega), if_neg (by omega), if_pos k2]; simp; omega
theorem idxOf_app {l : List Int} {t u : Int} (h : l.idxOf t < l.length) : (l ++ [u]).idxOf t = l.idxOf t := by
  rw [List.idxOf_append, if_pos (List.idxOf_lt_length_iff.1 h)]
theorem idxOf_new {l : List Int} {t : Int} (h : ¬ l.idxOf t < l.length) : (l ++ [t]).idxOf t = l.length := by
  rw [List.idxOf_append, if_neg (fun hm => h (List.idxOf_lt_length_iff.2 hm))]
  simp
structure MgInv (n : Nat) (A : List Int) (S : MgS) : Prop where
  pl : S.P.length = A.length
  kl : S.K.length = S.M.length
  le : S.K.length ≤ A.length
  at_ : ∀ s, s < A.length → ∃ k : Nat, k < S.K.length ∧ S.P.getD s 0 = (k : Int) ∧ S.K.getD k 0 = A.getD s 0
  tabs : tabsL n S.M [] = S.K
  ok : ∀ i (h : i < S.M.length), nodeOk n i S.M[i] = true
theorem MgInv.start (n : Nat) : MgInv n [] mg0 := ⟨rfl, rfl, Nat.le_refl _, fun s h => by simp at h, rfl, fun i h => by simp [mg0] at h⟩
theorem MgInv.rel {n : Nat} {A : List Int} {S : MgS} {x : Nd} (h : MgInv n A S) (hx : nodeOk n A.length x = true) :
    nodeOk n S.K.length (relT (atP S.P) x) = true ∧ tabOf n S.K (relT (atP S.P) x) = tabOf n A x := by
  rcases nodeOk_cases hx with ⟨k0, hA, hB⟩ | ⟨k1, hA, hB⟩ | ⟨k2, hA, hB⟩
  · have e : relT (atP S.P) x = x := by unfold relT; rw [if_neg (by omega)]
    rw [e]
    refine ⟨?_, ?_⟩
    · unfold nodeOk; rw [if_pos k0]; simp; omega
    · unfold tabOf; rw [if_pos k0, if_pos k0]
  · have e : relT (atP S.P) x = x := by unfold relT; rw [if_neg (by omega)]
    rw [e]
    refine ⟨?_, ?_⟩
    · unfold nodeOk; rw [if_neg (by omega), if_pos k1]; simp; omega
    · unfold tabOf; rw [if_neg (by omega), if_neg (by omega), if_neg (by omega), if_neg (by omega), if_neg (by omega), if_neg (by omega)]
  · have e : relT (atP S.P) x = ⟨x.kind, atP S.P x.a.toNat, atP S.P x.b.toNat⟩ := by unfold relT; rw [if_pos (by omega)]
    rw [e]
    obtain ⟨ka, ha1, ha2, ha3⟩ := h.at_ x.a.toNat (by omega)
    obtain ⟨kb, hb1, hb2, hb3⟩ := h.at_ x.b.toNat (by omega)
    unfold atP
    rw [ha2, hb2]
    refine ⟨?_, ?_⟩
    · unfold nodeOk; simp only; rw [if_neg (by omega), if_neg (by omega), if_pos k2]; simp; omega
    · unfold tabOf; simp only [Int.toNat_natCast]; rw [ha3, hb3, if_neg (show ¬ x.kind = 0 by omega), if_neg (show ¬ x.kind = 0 by omega)]
theorem tabsL_snoc (n : Nat) (x : Nd) : ∀ (l : List Nd) (acc : List Int), tabsL n (l ++ [x]) acc = tabsL n l acc ++ [tabOf n (tabsL n l acc) x]
  | [], acc => rfl
  | y :: l, acc => by rw [List.cons_append, tabsL, tabsL_snoc n x l, tabsL]
theorem MgInv.step {n : Nat} {A : List Int} {S : MgS} {x : Nd} (h : MgInv n A S) (hx : nodeOk n A.length x = true) : MgInv n (A ++ [tabOf n A x]) (mgStep S x (tabOf n A x)) := by
  obtain ⟨hr1, hr2⟩ := h.rel hx
  generalize ht : tabOf n A x = t at hr2 ⊢
  have hpl := h.pl
  have hle := h.le
  unfold mgStep
  by_cases hi : S.K.idxOf t < S.K.length
  · rw [if_pos hi]
    refine ⟨by simp; omega, h.kl, by simp; omega, fun s hs => ?_, h.tabs, h.ok⟩
    rw [List.length_append, List.length_singleton] at hs
    by_cases e : s = A.length
    · subst e
      refine ⟨_, hi, ?_, ?_⟩
      · simp only; rw [← hpl, getD_last]
      · simp only; rw [getD_last, getD_idxOf hi]
    · obtain ⟨k, h1, h2, h3⟩ := h.at_ s (by omega)
      exact ⟨k, h1, by simp only; rw [getD_app (by omega)]; exact h2, by simp only; rw [getD_app (by omega)]; exact h3⟩
  · rw [if_neg hi]
    refine ⟨by simp; omega, by simp; exact h.kl, by simp; omega, fun s hs => ?_, ?_, fun i hi2 => ?_⟩
    · rw [List.length_append, List.length_singleton] at hs
      by_cases e : s = A.length
      · subst e
        refine ⟨S.K.length, by simp, ?_, ?_⟩
        · simp only; rw [← hpl, getD_last]
        · simp only; rw [getD_last, getD_last]
      · obtain ⟨k, h1, h2, h3⟩ := h.at_ s (by omega)
        exact ⟨k, by simp; omega, by simp only; rw [getD_app (by omega)]; exact h2, by simp only; rw [getD_app (by omega), getD_app (by omega)]; exact h3⟩
    · simp only
      rw [tabsL_snoc, h.tabs, hr2]
    · simp only at hi2 ⊢
      by_cases e : i < S.M.length
      · rw [List.getElem_append_left e]
        exact h.ok i e
      · rw [List.length_append, List.length_singleton] at hi2
        obtain rfl : i = S.M.length := by omega
        rw [List.getElem_append_right (Nat.le_refl _)]
        simp only [Nat.sub_self, List.getElem_cons_zero]
        rw [← h.kl]
        exact hr1
theorem mgA_inv {n : Nat} {T : List Int} : ∀ (l : List Nd) (A : List Int) (S : MgS), MgInv n A S → (∀ i (h : i < l.length), nodeOk n (A.length + i) l[i] = true) → tabsL n l A = T → MgInv n T (mgA n l A S)
  | [], A, S, h, _, hT => by rw [← hT]; exact h
  | x :: l, A, S, h, ho, hT => by
    rw [mgA]
    refine mgA_inv l _ _ (h.step (ho 0 (by simp))) (fun i hi => ?_) hT
    have h2 := ho (i + 1) (by simp; omega)
    rw [List.getElem_cons_succ] at h2
    rw [List.length_append, List.length_singleton, show A.length + 1 + i = A.length + (i + 1) by omega]
    exact h2
theorem nodesOk_of {ni : Int} : ∀ (l : List Nd) (k : Nat), (∀ i (h : i < l.length), nodeOk ni (k + i) l[i] = true) → nodesOk ni l k = true
  | [], _, _ => rfl
  | x :: l, k, h => by
    rw [nodesOk, Bool.and_eq_true]
    refine ⟨h 0 (by simp), nodesOk_of l (k + 1) fun i hi => ?_⟩
    have h2 := h (i + 1) (by simp; omega)
    rw [List.getElem_cons_succ] at h2
    rw [show k + 1 + i = k + (i + 1) by omega]
    exact h2
theorem outsOkN_of {n : Nat} : ∀ (p : List Int), (∀ x ∈ p, 0 ≤ x ∧ x < n) → outsOkN n p = true
  | [], _ => rfl
  | y :: p, h => by
    rw [outsOkN, Bool.and_eq_true]
    exact ⟨by simpa using h y (by simp), outsOkN_of p fun x hx => h x (by simp [hx])⟩
theorem merge_inv {n : Nat} {l : List Nd} {p : List Int} (hok : netOk n l p = true) : MgInv n (tabsL n l []) (mgOf n l) :=
  mgA_inv l [] mg0 (MgInv.start n) (fun i h => by simpa using netOk_node hok i h) rfl
theorem merge_ok {n : Nat} {l : List Nd} {p : List Int} (hok : netOk n l p = true) : netOk n (mgOf n l).M (pickP (atP (mgOf n l).P) p) = true := by
  have hi := merge_inv hok
  obtain ⟨h1, h2, h3, h4, h5⟩ := netOk_parts hok
  have hT : (tabsL n l []).length = l.length := by rw [tabsL_length]; simp
  have hle := hi.le
  have hkl := hi.kl
  obtain ⟨k0, hk0, _⟩ := hi.at_ 0 (by omega)
  unfold netOk
  simp only [Bool.and_eq_true, decide_eq_true_eq, pickP_length]
  refine ⟨⟨⟨⟨h1, by omega⟩, h3⟩, nodesOk_of _ _ (fun i h => by rw [Nat.zero_add]; exact hi.ok i h)⟩, outsOkN_of _ (fun x hx => ?_)⟩
  unfold pickP at hx
  obtain ⟨y, hy, rfl⟩ := List.mem_map.1 hx
  have := outsOkN_all h5 y hy
  obtain ⟨k, hk1, hk2, _⟩ := hi.at_ y.toNat (by omega)
  unfold atP
  rw [hk2]
  omega
end Go.Proofs.Ytdnjamlibnmpfaa
