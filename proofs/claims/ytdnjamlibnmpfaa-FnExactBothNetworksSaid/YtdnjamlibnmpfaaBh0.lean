/- BothNetworks: the mathematics. -/
import Derived.Test.YtdnjamlibnmpfaaMg2
import Derived.Test.YtdnjamlibnmpfaaTn
namespace Go.Proofs.Ytdnjamlibnmpfaa
open Go.ChangeShapes Go.WideShapes Go.ChangeAt Go.RowKit Go.Joins Go.Deep
set_option linter.unusedVariables false
set_option linter.unusedSimpArgs false

def shN (m : Nat) (x : Nd) : Nd := if 2 ≤ x.kind then ⟨x.kind, x.a + m, x.b + m⟩ else x
def plP (m j : Nat) : List Int := (List.range j).map fun i => ((m + i : Nat) : Int)
theorem plP_length (m j : Nat) : (plP m j).length = j := by simp [plP]
theorem plP_succ (m j : Nat) : plP m (j + 1) = plP m j ++ [((m + j : Nat) : Int)] := by simp [plP, List.range_succ]
theorem plP_at {m j s : Nat} (h : s < j) : atP (plP m j) s = ((m + s : Nat) : Int) := by
  unfold atP plP
  rw [List.getD_eq_getElem?_getD, List.getElem?_map, List.getElem?_range h]
  rfl
theorem rel_sh {ni : Int} {m j : Nat} {x : Nd} (h : nodeOk ni j x = true) : relT (atP (plP m j)) x = shN m x := by
  unfold relT shN
  rcases nodeOk_cases h with h | h | h
  · rw [if_neg (by omega), if_neg (by omega)]
  · rw [if_neg (by omega), if_neg (by omega)]
  · rw [if_pos (by omega), if_pos (by omega), plP_at (by omega), plP_at (by omega)]
    congr 1 <;> omega
def boN (l l' : List Nd) : List Nd := l ++ l'.map (shN l.length)
def boP (m : Nat) (p p' : List Int) : List Int := p ++ p'.map (· + (m : Int))
theorem pick_sh {m n : Nat} : ∀ {p : List Int}, (∀ x ∈ p, 0 ≤ x ∧ x < n) → pickP (atP (plP m n)) p = p.map (· + (m : Int))
  | [], _ => rfl
  | x :: p, h => by
    have hx := h x (by simp)
    have e := pick_sh (m := m) (n := n) (p := p) (fun y hy => h y (by simp [hy]))
    unfold pickP at e ⊢
    rw [List.map_cons, List.map_cons, e, plP_at (by omega)]
    congr 1
    omega
def boQ (R R' : Bool) (ni nj : Int) (l l' : List Nd) (p p' : List Int) : Int × List Nd × List Int × Int :=
  if R = true ∧ R' = true then (if ni = nj then (if l.length + l'.length ≤ 80 ∧ p.length + p'.length ≤ 8 then (ni, boN l l', boP l.length p p', 0) else (0, [], [], 3)) else (0, [], [], 4)) else (0, [], [], 1)
theorem boQ_fine {R R' : Bool} {ni nj : Int} {l l' : List Nd} {p p' : List Int} {Nr : Int} {lr : List Nd} {pr : List Int} {C : Int} (hR : R = netOk ni l p) (hR' : R' = netOk nj l' p') (h8 : NdsWf l) (h8' : NdsWf l') (h9 : ShsWf p) (h9' : ShsWf p')
    (hQ : boQ R R' ni nj l l' p p' = (Nr, lr, pr, C)) : NdsWf lr ∧ ShsWf pr ∧ lr.length ≤ 1048576 ∧ pr.length ≤ 1048576 := by
  have nil : NdsWf ([] : List Nd) ∧ ShsWf ([] : List Int) ∧ ([] : List Nd).length ≤ 1048576 ∧ ([] : List Int).length ≤ 1048576 := ⟨fun x hx => by simp at hx, fun x hx => by simp at hx, by simp, by simp⟩
  unfold boQ at hQ
  split at hQ
  · rename_i hRR
    split at hQ
    · split at hQ
      · rename_i hb
        obtain ⟨-, rfl, rfl, -⟩ := quad_N hQ
        have hok' : netOk nj l' p' = true := by rw [← hR']; exact hRR.2
        have hp' := netOk_parts hok'
        refine ⟨fun x hx => ?_, fun x hx => ?_, by simp [boN]; omega, by simp [boP]; omega⟩
        · rcases List.mem_append.1 hx with hx | hx
          · exact h8 x hx
          · obtain ⟨y, hy, rfl⟩ := List.mem_map.1 hx
            obtain ⟨i, hi, rfl⟩ := List.getElem_of_mem hy
            have hc := nodeOk_cases (netOk_node hok' i hi)
            have hw := h8' _ hy
            unfold shN
            split
            · exact ⟨hw.1, wf_i16 (by simp only; omega), wf_i16 (by simp only; omega)⟩
            · exact hw
        · rcases List.mem_append.1 hx with hx | hx
          · exact h9 x hx
          · obtain ⟨y, hy, rfl⟩ := List.mem_map.1 hx
            have := outsOkN_all hp'.2.2.2.2 y hy
            exact wf_i16 (by omega)
      · obtain ⟨-, rfl, rfl, -⟩ := quad_N hQ; exact nil
    · obtain ⟨-, rfl, rfl, -⟩ := quad_N hQ; exact nil
  · obtain ⟨-, rfl, rfl, -⟩ := quad_N hQ; exact nil
/-- two lists that grow, each in a box of its own -/
structure BW (w : World) (PN PP bn bp : Nat) (nv pv : Value) (K : List Nd) (P : List Int) : Prop where
  n : w.ownsRow bn 48 3 nv K.length (flatNd K)
  no : w.heap[PN]? = some (.cells #[nv] 52 (0, 0))
  p : w.ownsRow bp 46 1 pv P.length (flatSh P)
  po : w.heap[PP]? = some (.cells #[pv] 54 (0, 0))
  ne : PN ≠ PP
theorem BW.below {w w' : World} {PN PP bn bp : Nat} {nv pv : Value} {K : List Nd} {P : List Int} (h : BW w PN PP bn bp nv pv K P) (b : Below w.heap.size w w') : BW w' PN PP bn bp nv pv K P :=
  ⟨owns_below h.n b, blk_below h.no b, owns_below h.p b, blk_below h.po b, h.ne⟩
theorem BW.putN {w w' : World} {PN PP bn bp : Nat} {nv pv nv' : Value} {K K' : List Nd} {P : List Int} (h : BW w PN PP bn bp nv pv K P) (g : KeptP w w' PN nv) (hn : w'.ownsRow bn 48 3 nv' K'.length (flatNd K')) (ho : w'.heap[PN]? = some (.cells #[nv'] 52 (0, 0))) : BW w' PN PP bn bp nv' pv K' P :=
  ⟨hn, ho, own_keptP h.p g (row_block h.p h.no (by decide)) (rows_apart h.p h.n (by decide)), (g.block PP (blk_lt h.po) (fun e => h.ne e.symm) (row_block h.n h.po (by decide))).trans h.po, h.ne⟩
theorem BW.putS {w w' : World} {PN PP bn bp : Nat} {nv pv pv' : Value} {K : List Nd} {P P' : List Int} (h : BW w PN PP bn bp nv pv K P) (g : KeptP w w' PP pv) (hp : w'.ownsRow bp 46 1 pv' P'.length (flatSh P')) (ho : w'.heap[PP]? = some (.cells #[pv'] 54 (0, 0))) : BW w' PN PP bn bp nv pv' K P' :=
  ⟨own_keptP h.n g (row_block h.n h.po (by decide)) (rows_apart h.n h.p (by decide)), (g.block PN (blk_lt h.no) h.ne (row_block h.p h.no (by decide))).trans h.no, hp, ho, h.ne⟩
end Go.Proofs.Ytdnjamlibnmpfaa
