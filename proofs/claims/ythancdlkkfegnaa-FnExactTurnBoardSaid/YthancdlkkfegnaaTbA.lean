/- Boards that are turned: the mathematics. -/
import Derived.Test.YthancdlkkfegnaaMvA
namespace Go.Proofs.Ythancdlkkfegnaa
open Go.ChangeShapes Go.WideShapes Go.ChangeAt Go.RowKit
set_option linter.unusedVariables false

def qt (h : Int) (p : Pc) : Pc := ⟨h - 1 - p.y, p.x, p.kind, (p.turn + 1) % 4, p.delay⟩
def qh (h : Int) (p : Pc) : Pc := ⟨h - 1 - p.y, p.x, p.kind, p.turn, p.delay⟩
structure Fine (wd hi : Int) (l : List Pc) : Prop where
  w1 : 1 ≤ wd
  w2 : wd ≤ 24
  h1 : 1 ≤ hi
  h2 : hi ≤ 24
  ps : ∀ p ∈ l, p.in8 ∧ (0 ≤ p.x ∧ p.x ≤ wd - 1) ∧ (0 ≤ p.y ∧ p.y ≤ hi - 1) ∧ (0 ≤ p.turn ∧ p.turn ≤ 3)
theorem Fine.turn {wd hi : Int} {l : List Pc} (h : Fine wd hi l) : Fine hi wd (l.map (qt hi)) := by
  obtain ⟨h1, h2, h3, h4, h5⟩ := h
  refine ⟨h3, h4, h1, h2, fun q hq => ?_⟩
  obtain ⟨p, hp, rfl⟩ := List.mem_map.1 hq
  obtain ⟨⟨_, _, a, _, b⟩, c, d, e⟩ := h5 p hp
  simp only [qt, Pc.in8, i8] at *
  refine ⟨⟨by omega, by omega, a, by omega, b⟩, by omega, by omega, by omega⟩
def turnK : Nat → Int → Int → List Pc → Int × Int × List Pc
  | 0, wd, hi, l => (wd, hi, l)
  | k + 1, wd, hi, l => turnK k hi wd (l.map (qt hi))
theorem fine_turnK : ∀ (k : Nat) {wd hi : Int} {l : List Pc} {W H : Int} {L : List Pc}, Fine wd hi l → turnK k wd hi l = (W, H, L) → Fine W H L ∧ L.length = l.length
  | 0, _, _, _, _, _, _, h, e => by
    simp only [turnK, Prod.mk.injEq] at e
    obtain ⟨rfl, rfl, rfl⟩ := e
    exact ⟨h, rfl⟩
  | k + 1, _, _, _, _, _, _, h, e => by
    have := fine_turnK k h.turn e
    exact ⟨this.1, by rw [this.2, List.length_map]⟩
theorem okFrom_fine {wd hi : Int} {l : List Pc} : ∀ (r : List Pc) (i : Nat), okFrom wd hi l i r = true → ∀ p ∈ r, p.ok = true ∧ (0 ≤ p.x ∧ p.x ≤ wd - 1) ∧ (0 ≤ p.y ∧ p.y ≤ hi - 1)
  | [], _, _, p, hp => absurd hp (by simp)
  | q :: r, i, h, p, hp => by
    simp only [okFrom, Bool.and_eq_true, okOne, decide_eq_true_eq] at h
    rcases List.mem_cons.1 hp with rfl | hp
    · exact ⟨h.1.1.1, by omega, by omega⟩
    · exact okFrom_fine r (i + 1) h.2 p hp
theorem fine_of_ok {wd hi : Int} {l : List Pc} (h : boardOk wd hi l = true) (h8 : All8 l) : Fine wd hi l := by
  simp only [boardOk, Bool.and_eq_true, decide_eq_true_eq] at h
  refine ⟨h.1.1, h.1.2.1, h.1.2.2.1, h.1.2.2.2.1, fun p hp => ?_⟩
  obtain ⟨h1, h2, h3⟩ := okFrom_fine l 0 h.2 p hp
  have := of_decide_eq_true h1
  exact ⟨h8 p hp, h2, h3, by omega⟩
def turnQ (R : Bool) (wd hi q : Int) (l : List Pc) : Int × Int × List Pc × Int :=
  if R = true then (if -100 ≤ q ∧ q ≤ 100 then ((turnK (q % 4).toNat wd hi l).1, (turnK (q % 4).toNat wd hi l).2.1, (turnK (q % 4).toNat wd hi l).2.2, 0) else (0, 0, [], 2)) else (0, 0, [], 1)
theorem turnQ_ok {R : Bool} {wd hi q : Int} {l : List Pc} {Wr Hr : Int} {lr : List Pc} {C : Int} (h8 : All8 l) (hR : R = boardOk wd hi l) (h : turnQ R wd hi q l = (Wr, Hr, lr, C)) (hl : l.length ≤ 1048576) : All8 lr ∧ lr.length ≤ 1048576 := by
  have hnil : All8 ([] : List Pc) ∧ ([] : List Pc).length ≤ 1048576 := ⟨fun p h => absurd h (by simp), by simp⟩
  unfold turnQ at h
  split at h
  · rename_i h1
    split at h
    · obtain ⟨_, _, rfl, _⟩ := four_inj h
      have := fine_turnK (q % 4).toNat (fine_of_ok (by rw [← hR]; exact h1) h8) (W := (turnK (q % 4).toNat wd hi l).1) (H := (turnK (q % 4).toNat wd hi l).2.1) (L := (turnK (q % 4).toNat wd hi l).2.2) rfl
      exact ⟨fun p hp => (this.1.ps p hp).1, by rw [this.2]; exact hl⟩
    · obtain ⟨_, _, rfl, _⟩ := four_inj h; exact hnil
  · obtain ⟨_, _, rfl, _⟩ := four_inj h; exact hnil
theorem OwnAt.q1 {w : World} {g k : Nat} {h : Int} {l : List Pc} (o : OwnAt w g (mixed (qt h) l k)) (hk : k < l.length) :
    OwnAt ((w.setCell ⟨g, k * 5, none⟩ (.int .i8 (h - 1 - l[k].y))).setCell ⟨g, k * 5 + 1, none⟩ (.int .i8 l[k].x)).drew g ((mixed (qt h) l k).set k (qh h l[k])) := by
  have h1 := o.put (k := k) (j := 0) (v := .int .i8 (h - 1 - l[k].y)) (q := ⟨h - 1 - l[k].y, l[k].y, l[k].kind, l[k].turn, l[k].delay⟩) (by rw [mixed_length]; exact hk) (by omega) (by rw [mixed_get _ _ _ hk]; rfl)
  have h2 := h1.put (k := k) (j := 1) (v := .int .i8 l[k].x) (q := qh h l[k]) (by rw [List.length_set, mixed_length]; exact hk) (by omega) (by rw [List.getElem_set_self]; rfl)
  rw [List.set_set] at h2
  exact h2.drew
theorem OwnAt.q2 {w : World} {g k : Nat} {h : Int} {l : List Pc} (hk : k < l.length) (o : OwnAt w g ((mixed (qt h) l k).set k (qh h l[k]))) :
    OwnAt (w.setCell ⟨g, k * 5 + 3, none⟩ (.int .i8 ((l[k].turn + 1) % 4))) g (mixed (qt h) l (k + 1)) := by
  have h2 := o.put (k := k) (j := 3) (v := .int .i8 ((l[k].turn + 1) % 4)) (q := qt h l[k]) (by rw [List.length_set, mixed_length]; exact hk) (by omega) (by rw [List.getElem_set_self]; rfl)
  rw [List.set_set, mixed_set _ _ _ hk] at h2
  exact h2
theorem OwnAt.get_q {w : World} {g k : Nat} {h : Int} {l : List Pc} (hk : k < l.length) (o : OwnAt w g ((mixed (qt h) l k).set k (qh h l[k]))) : PcAt w g (k * 5) (qh h l[k]) := by
  have h2 := o.at_ k (by rw [List.length_set, mixed_length]; exact hk)
  rw [List.getElem_set_self, Nat.zero_add] at h2
  exact h2
theorem OwnAt.get_m {w : World} {g k : Nat} {f : Pc → Pc} {l : List Pc} (hk : k < l.length) (o : OwnAt w g (mixed f l k)) : PcAt w g (k * 5) l[k] := by
  have h2 := o.at_ k (by rw [mixed_length]; exact hk)
  rw [mixed_get _ _ _ hk, Nat.zero_add] at h2
  exact h2
theorem blk_set_same {w : World} {b i : Nat} {cs : Array Value} {t : TypeId} {fr : Nat × Nat} {v : Value} (h : w.heap[b]? = some (.cells cs t fr)) : (w.setCell ⟨b, i, none⟩ v).heap[b]? = some (.cells (cs.setIfInBounds i v) t fr) := by
  simp [World.setCell, Array.getElem?_modify, h]
end Go.Proofs.Ythancdlkkfegnaa
