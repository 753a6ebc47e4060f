/- TrimNetwork: rows of truths and of places as functions of the index; what is used, what is kept. -/
import Derived.Test.YtdnjamlibnmpfaaG20
import Derived.Test.YtdnjamlibnmpfaaNr
namespace Go.Proofs.Ytdnjamlibnmpfaa
open Go.ChangeShapes Go.WideShapes Go.ChangeAt Go.RowKit Go.Joins Go.Deep
set_option linter.unusedVariables false
set_option linter.unusedSimpArgs false

def putF {α : Type} (F : Nat → α) (k : Nat) (x : α) : Nat → α := fun s => if s = k then x else F s
theorem putF_at {α : Type} (F : Nat → α) (k : Nat) (x : α) : putF F k x k = x := by simp [putF]
structure TRow (w : World) (g n : Nat) (U : Nat → Bool) : Prop where
  lt : g < w.heap.size
  at_ : ∀ k, k < n → w.cell? ⟨g, k, none⟩ = some (.bool (U k))
  fz : ∀ j, w.frozen? ⟨g, j, none⟩ = false
theorem TRow.below {w w' : World} {g n : Nat} {F : Nat → Bool} (h : TRow w g n F) (b : Below w.heap.size w w') : TRow w' g n F :=
  ⟨Nat.lt_of_lt_of_le h.lt b.size, fun k hk => (b.cell (p := ⟨g, k, none⟩) h.lt).trans (h.at_ k hk), fun j => (b.frozen (p := ⟨g, j, none⟩) h.lt).trans (h.fz j)⟩
theorem TRow.put {w : World} {g n k : Nat} {F : Nat → Bool} {x : Bool} (h : TRow w g n F) (hk : k < n) : TRow (w.setCell ⟨g, k, none⟩ (.bool x)) g n (putF F k x) := by
  refine ⟨by simpa [World.setCell] using h.lt, fun i hi => ?_, fun i => by rw [World.frozen?_setCell]; exact h.fz i⟩
  unfold putF
  by_cases ei : i = k
  · subst ei
    rw [if_pos rfl]
    exact World.cell?_setCell_same _ _ _ (h.at_ i hi)
  · rw [if_neg ei, World.cell?_setCell_other _ _ _ _ (by intro x; injection x with _ x2 _; exact ei x2.symm), h.at_ i hi]
theorem TRow.far {w : World} {g n : Nat} {F : Nat → Bool} {p : Addr} {v : Value} (h : TRow w g n F) (hp : p.block ≠ g) : TRow (w.setCell p v) g n F :=
  ⟨by simpa [World.setCell] using h.lt, fun k hk => (World.cell?_of_block (w := w) (Below.heap_setCell _ _ _ _ (Ne.symm hp))).trans (h.at_ k hk), fun j => by rw [World.frozen?_setCell]; exact h.fz j⟩
theorem TRow.drewN {w : World} {g n : Nat} {F : Nat → Bool} (h : TRow w g n F) (m : Nat) : TRow (w.drewN m) g n F := ⟨h.lt, h.at_, h.fz⟩
theorem trow_made {w : World} {n B : Nat} {e : TypeId} (h : w.ownsRow B e 1 (.slice (some ⟨B, 0, none⟩) n n) n (madeCells #[.bool false] n).toList) : TRow w B n (fun _ => false) := by
  refine ⟨(h.lt B rfl).2, fun j hj => ?_, fun j => h.frozenAt j⟩
  have h2 := h.cellAt j (by omega)
  rw [toList_madeCells_one] at h2
  rw [h2]
  simp [hj]
structure SRow (w : World) (g n : Nat) (U : Nat → Int) : Prop where
  lt : g < w.heap.size
  at_ : ∀ k, k < n → w.cell? ⟨g, k, none⟩ = some (.int .i16 (U k))
  fz : ∀ j, w.frozen? ⟨g, j, none⟩ = false
theorem SRow.below {w w' : World} {g n : Nat} {F : Nat → Int} (h : SRow w g n F) (b : Below w.heap.size w w') : SRow w' g n F :=
  ⟨Nat.lt_of_lt_of_le h.lt b.size, fun k hk => (b.cell (p := ⟨g, k, none⟩) h.lt).trans (h.at_ k hk), fun j => (b.frozen (p := ⟨g, j, none⟩) h.lt).trans (h.fz j)⟩
theorem SRow.put {w : World} {g n k : Nat} {F : Nat → Int} {x : Int} (h : SRow w g n F) (hk : k < n) : SRow (w.setCell ⟨g, k, none⟩ (.int .i16 x)) g n (putF F k x) := by
  refine ⟨by simpa [World.setCell] using h.lt, fun i hi => ?_, fun i => by rw [World.frozen?_setCell]; exact h.fz i⟩
  unfold putF
  by_cases ei : i = k
  · subst ei
    rw [if_pos rfl]
    exact World.cell?_setCell_same _ _ _ (h.at_ i hi)
  · rw [if_neg ei, World.cell?_setCell_other _ _ _ _ (by intro x; injection x with _ x2 _; exact ei x2.symm), h.at_ i hi]
theorem SRow.far {w : World} {g n : Nat} {F : Nat → Int} {p : Addr} {v : Value} (h : SRow w g n F) (hp : p.block ≠ g) : SRow (w.setCell p v) g n F :=
  ⟨by simpa [World.setCell] using h.lt, fun k hk => (World.cell?_of_block (w := w) (Below.heap_setCell _ _ _ _ (Ne.symm hp))).trans (h.at_ k hk), fun j => by rw [World.frozen?_setCell]; exact h.fz j⟩
theorem SRow.drewN {w : World} {g n : Nat} {F : Nat → Int} (h : SRow w g n F) (m : Nat) : SRow (w.drewN m) g n F := ⟨h.lt, h.at_, h.fz⟩
theorem srow_made {w : World} {n B : Nat} {e : TypeId} (h : w.ownsRow B e 1 (.slice (some ⟨B, 0, none⟩) n n) n (madeCells #[.int .i16 0] n).toList) : SRow w B n (fun _ => 0) := by
  refine ⟨(h.lt B rfl).2, fun j hj => ?_, fun j => h.frozenAt j⟩
  have h2 := h.cellAt j (by omega)
  rw [toList_madeCells_one] at h2
  rw [h2]
  simp [hj]

/-- what the outputs use -/
def outsT : List Int → (Nat → Bool) → (Nat → Bool)
  | [], F => F
  | x :: p, F => outsT p (putF F x.toNat true)
theorem outsT_drop {p : List Int} {j : Nat} (h : j < p.length) (F : Nat → Bool) : outsT (p.drop j) F = outsT (p.drop (j + 1)) (putF F (p[j]).toNat true) := by rw [List.drop_eq_getElem_cons h]; rfl
theorem outsT_end {p : List Int} {j : Nat} (h : p.length ≤ j) (F : Nat → Bool) : outsT (p.drop j) F = F := by rw [List.drop_of_length_le h]; rfl
def nd0 : Nd := ⟨0, 0, 0⟩
theorem nd_at {l : List Nd} {i : Nat} (h : i < l.length) : l.getD i nd0 = l[i] := by rw [List.getD_eq_getElem?_getD, List.getElem?_eq_getElem h]; rfl
def useT (x : Nd) (F : Nat → Bool) : Nat → Bool := putF (putF F x.a.toNat true) x.b.toNat true
/-- what the nodes that are used use, from the last one to the first -/
def backT (l : List Nd) : Nat → (Nat → Bool) → (Nat → Bool)
  | 0, F => F
  | i + 1, F => backT l i (if F i = true ∧ 2 ≤ (l.getD i nd0).kind then useT (l.getD i nd0) F else F)
theorem backT_use {l : List Nd} {i : Nat} {x : Nd} {F : Nat → Bool} (h : i < l.length) (hx : l[i] = x) (h1 : F i = true) (h2 : 2 ≤ x.kind) : backT l (i + 1) F = backT l i (useT x F) := by
  rw [backT, nd_at h, hx, if_pos ⟨h1, h2⟩]
theorem backT_not {l : List Nd} {i : Nat} {x : Nd} {F : Nat → Bool} (h : i < l.length) (hx : l[i] = x) (h1 : ¬ (F i = true ∧ 2 ≤ x.kind)) : backT l (i + 1) F = backT l i F := by
  rw [backT, nd_at h, hx, if_neg h1]
def relT (P : Nat → Int) (x : Nd) : Nd := if 2 ≤ x.kind then ⟨x.kind, P x.a.toNat, P x.b.toNat⟩ else x
/-- the places, and the nodes that are kept -/
def trimT (U : Nat → Bool) : List Nd → Nat → (Nat → Int) → List Nd → (Nat → Int) × List Nd
  | [], _, P, K => (P, K)
  | x :: l, i, P, K => if U i = true then trimT U l (i + 1) (putF P i (K.length : Int)) (K ++ [relT P x]) else trimT U l (i + 1) P K
theorem trimT_yes {U : Nat → Bool} {l : List Nd} {j : Nat} {P : Nat → Int} {K : List Nd} {x : Nd} (h : j < l.length) (hx : l[j] = x) (hu : U j = true) :
    trimT U (l.drop j) j P K = trimT U (l.drop (j + 1)) (j + 1) (putF P j (K.length : Int)) (K ++ [relT P x]) := by
  rw [List.drop_eq_getElem_cons h, trimT, if_pos hu, hx]
theorem trimT_no {U : Nat → Bool} {l : List Nd} {j : Nat} {P : Nat → Int} {K : List Nd} (h : j < l.length) (hu : ¬ U j = true) :
    trimT U (l.drop j) j P K = trimT U (l.drop (j + 1)) (j + 1) P K := by
  rw [List.drop_eq_getElem_cons h, trimT, if_neg hu]
theorem trimT_end {U : Nat → Bool} {l : List Nd} {j : Nat} {P : Nat → Int} {K : List Nd} (h : l.length ≤ j) : trimT U (l.drop j) j P K = (P, K) := by rw [List.drop_of_length_le h]; rfl
theorem wf_i16 {v : Int} (h : 0 ≤ v ∧ v ≤ 32767) : (Lit.int .i16 v).wf = true := by
  have hm : IntKind.i16.min = -32768 := rfl
  have hM : IntKind.i16.max = 32767 := rfl
  simp [Lit.wf, hm, hM]
  omega
def pickP (P : Nat → Int) (p : List Int) : List Int := p.map fun x => P x.toNat
theorem pickP_length (P : Nat → Int) (p : List Int) : (pickP P p).length = p.length := by simp [pickP]
/-- the nodes used, the places and the nodes kept of a network -/
def usedT (l : List Nd) (p : List Int) : Nat → Bool := backT l l.length (outsT p (fun _ => false))
def keptT (l : List Nd) (p : List Int) : (Nat → Int) × List Nd := trimT (usedT l p) l 0 (fun _ => 0) []
theorem trimT_fine {U : Nat → Bool} : ∀ (l : List Nd) (i : Nat) (P : Nat → Int) (K : List Nd) (B : Nat), NdsWf l → NdsWf K → K.length ≤ i → i + l.length ≤ B → B ≤ 1048576 → (∀ s, 0 ≤ P s ∧ P s ≤ 32767) → i + l.length ≤ 32767 →
    NdsWf (trimT U l i P K).2 ∧ (trimT U l i P K).2.length ≤ B ∧ ∀ s, 0 ≤ (trimT U l i P K).1 s ∧ (trimT U l i P K).1 s ≤ 32767
  | [], i, P, K, B, _, hK, h1, h2, _, hP, _ => ⟨hK, by simp only [trimT]; simp at h2; omega, hP⟩
  | x :: l, i, P, K, B, hl, hK, h1, h2, h3, hP, h4 => by
    have hx : x.wf := hl x (by simp)
    have hl2 : NdsWf l := fun y hy => hl y (by simp [hy])
    simp only [List.length_cons] at h2 h4
    rw [trimT]
    by_cases hu : U i = true
    · rw [if_pos hu]
      refine trimT_fine l (i + 1) _ _ B hl2 ?_ (by simp; omega) (by omega) h3 ?_ (by omega)
      · intro y hy
        rcases List.mem_append.1 hy with h | h
        · exact hK y h
        · obtain rfl := List.mem_singleton.1 h
          unfold relT
          split
          · obtain ⟨a, b, c⟩ := hx
            have pa := hP x.a.toNat
            have pb := hP x.b.toNat
            exact ⟨a, wf_i16 pa, wf_i16 pb⟩
          · exact hx
      · intro s
        unfold putF
        split
        · omega
        · exact hP s
    · rw [if_neg hu]
      exact trimT_fine l (i + 1) P K B hl2 hK (by omega) (by omega) h3 hP (by omega)
end Go.Proofs.Ytdnjamlibnmpfaa
