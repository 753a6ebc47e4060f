/- Boards that are moved: the mathematics; own rows of pieces, cell by cell. -/
import Derived.Test.YthancdlkkfegnaaPp
import Derived.Test.YthancdlkkfegnaaWk
import Derived.Test.YthancdlkkfegnaaCk
namespace Go.Proofs.Ythancdlkkfegnaa
open Go.ChangeShapes Go.WideShapes Go.ChangeAt Go.RowKit
set_option linter.unusedVariables false

/-- a row of pieces that may be written -/
structure OwnAt (w : World) (g : Nat) (l : List Pc) : Prop where
  lt : g < w.heap.size
  at_ : PcsAt w g 0 l
  fz : ∀ j, w.frozen? ⟨g, j, none⟩ = false
theorem OwnAt.below {w w' : World} {g : Nat} {l : List Pc} (h : OwnAt w g l) (b : Below w.heap.size w w') : OwnAt w' g l :=
  ⟨Nat.lt_of_lt_of_le h.lt b.size, h.at_.below b h.lt, fun j => (b.frozen (p := ⟨g, j, none⟩) h.lt).trans (h.fz j)⟩
theorem PcAt.get {w : World} {b o : Nat} {p : Pc} (h : PcAt w b o p) : ∀ j, j < 5 → w.cell? ⟨b, o + j, none⟩ = p.cells[j]? := by
  obtain ⟨h0, h1, h2, h3, h4⟩ := h
  intro j hj
  have h5 : j = 0 ∨ j = 1 ∨ j = 2 ∨ j = 3 ∨ j = 4 := by omega
  rcases h5 with rfl | rfl | rfl | rfl | rfl
  · exact h0
  · exact h1
  · exact h2
  · exact h3
  · exact h4
theorem PcAt.of_get {w : World} {b o : Nat} {p : Pc} (h : ∀ j, j < 5 → w.cell? ⟨b, o + j, none⟩ = p.cells[j]?) : PcAt w b o p :=
  ⟨h 0 (by omega), h 1 (by omega), h 2 (by omega), h 3 (by omega), h 4 (by omega)⟩
/-- a store into the j-th cell of the k-th piece -/
theorem OwnAt.put {w : World} {g k j : Nat} {l : List Pc} {v : Value} {q : Pc} (h : OwnAt w g l) (hk : k < l.length) (hj : j < 5) (hq : q.cells = l[k].cells.set j v) : OwnAt (w.setCell ⟨g, k * 5 + j, none⟩ v) g (l.set k q) := by
  refine ⟨by simpa [World.setCell] using h.lt, fun i hi => ?_, fun i => by rw [World.frozen?_setCell]; exact h.fz i⟩
  have hi' : i < l.length := by simpa using hi
  refine PcAt.of_get fun m hm => ?_
  have hc := (h.at_ i hi').get m hm
  by_cases e : i = k
  · subst e
    rw [List.getElem_set_self, hq]
    by_cases em : m = j
    · subst em
      have hs : (w.setCell ⟨g, i * 5 + m, none⟩ v).cell? ⟨g, i * 5 + m, none⟩ = some v := by
        have hc' : w.cell? ⟨g, i * 5 + m, none⟩ = l[i].cells[m]? := by rw [← hc, Nat.zero_add]
        have hl : m < l[i].cells.length := hm
        rw [List.getElem?_eq_getElem hl] at hc'
        exact World.cell?_setCell_same _ _ _ hc'
      rw [Nat.zero_add, hs, List.getElem?_set_self (show m < l[i].cells.length from hm)]
    · rw [List.getElem?_set_ne (Ne.symm em), ← hc]
      exact World.cell?_setCell_other _ _ _ _ (by intro x; injection x with _ x2 _; omega)
  · rw [List.getElem_set_ne (Ne.symm e), ← hc]
    exact World.cell?_setCell_other _ _ _ _ (by intro x; injection x with _ x2 _; omega)
theorem OwnAt.drew {w : World} {g : Nat} {l : List Pc} (h : OwnAt w g l) : OwnAt w.drew g l := ⟨h.lt, h.at_, h.fz⟩
theorem OwnAt.slw {w : World} {g lo cap : Nat} {l : List Pc} (h : OwnAt w g l) (hl : lo ≤ g) (hc : l.length ≤ cap) : SlW lo w.heap.size w l (.slice (some ⟨g, 0, none⟩) l.length cap) :=
  .mk g 0 cap h.at_ hl h.lt h.lt h.fz hc
theorem OwnAt.far {w : World} {g : Nat} {l : List Pc} {p : Addr} {v : Value} (h : OwnAt w g l) (hp : p.block ≠ g) : OwnAt (w.setCell p v) g l :=
  ⟨by simpa [World.setCell] using h.lt, h.at_.setB hp, fun i => by rw [World.frozen?_setCell]; exact h.fz i⟩
theorem OwnAt.row {w : World} {g r : Nat} {l : List Pc} {cs : Array Value} (h : OwnAt w g l) (hp : g ≠ r) : OwnAt (w.setRow r cs) g l := by
  have hb : (w.setRow r cs).heap[g]? = w.heap[g]? := setRow_other _ _ _ _ hp
  have hc : ∀ j, (w.setRow r cs).cell? ⟨g, j, none⟩ = w.cell? ⟨g, j, none⟩ := fun j => World.cell?_of_block (w := w) hb
  refine ⟨by simpa [World.setRow] using h.lt, fun i hi => ?_, fun j => (World.frozen?_of_block (w := w) hb).trans (h.fz j)⟩
  obtain ⟨h0, h1, h2, h3, h4⟩ := h.at_ i hi
  exact ⟨(hc _).trans h0, (hc _).trans h1, (hc _).trans h2, (hc _).trans h3, (hc _).trans h4⟩
theorem ownAt_of_owns {w : World} {base : Nat} {e : TypeId} {v : Value} {n : Nat} {l : List Pc} (h : w.ownsRow base e 5 v n (flatL l)) (hv : v ≠ .slice none 0 0) : ∃ g cap, v = .slice (some ⟨g, 0, none⟩) n cap ∧ OwnAt w g l ∧ base ≤ g ∧ n = l.length ∧ n ≤ cap := by
  obtain ⟨hl, h | ⟨g, cap, cur, rfl, hb, hg, hn, hm, hs, ht⟩⟩ := h
  · exact absurd h.1 hv
  · rw [flatL_length] at hl
    obtain rfl : n = l.length := by omega
    have hlt : g < w.heap.size := (Array.getElem?_eq_some_iff.1 hg).1
    have hcell : ∀ j, j < l.length * 5 → w.cell? ⟨g, j, none⟩ = (flatL l)[j]? := by
      intro j hj
      rw [← ht, List.getElem?_take_of_lt hj]
      have hjs : j < cur.toList.length := by rw [Array.length_toList, hs]; exact Nat.lt_of_lt_of_le hj (Nat.mul_le_mul_right 5 hn)
      rw [List.getElem?_eq_getElem hjs]
      exact (cell_of_row w g j cur e _ hg).trans (by simp)
    refine ⟨g, cap, rfl, ⟨hlt, fun i hi => PcAt.of_get fun j hj => ?_, fun j => frozen_of_row w _ j _ _ hg⟩, hb, rfl, hn⟩
    rw [Nat.zero_add, hcell _ (by omega), flatL_get l i j hi hj]

/-! ### the mathematics of moves -/
def mv (e s : Int) (p : Pc) : Pc := ⟨p.x + e, p.y + s, p.kind, p.turn, p.delay⟩
def moveQ (R : Bool) (wd hi e s : Int) (l : List Pc) : Int × Int × List Pc × Int :=
  if R = true then (if (-24 ≤ e ∧ e ≤ 24) ∧ (-24 ≤ s ∧ s ≤ 24) then (if boardOk wd hi (l.map (mv e s)) = true then (wd, hi, l.map (mv e s), 0) else (0, 0, [], 4)) else (0, 0, [], 2)) else (0, 0, [], 1)
/-- the first k pieces are moved -/
def mixed (f : Pc → Pc) (l : List Pc) (k : Nat) : List Pc := (l.take k).map f ++ l.drop k
theorem mixed_zero (f : Pc → Pc) (l : List Pc) : mixed f l 0 = l := by simp [mixed]
theorem mixed_all (f : Pc → Pc) (l : List Pc) : mixed f l l.length = l.map f := by simp [mixed]
theorem mixed_length (f : Pc → Pc) (l : List Pc) (k : Nat) : (mixed f l k).length = l.length := by simp [mixed]; omega
theorem mixed_get (f : Pc → Pc) (l : List Pc) (k : Nat) (h : k < l.length) : (mixed f l k)[k]'(by rw [mixed_length]; exact h) = l[k] := by
  have : (mixed f l k)[k]? = some l[k] := by
    unfold mixed
    rw [List.getElem?_append_right (by simp; omega)]
    simp
    rw [show k + (k - min k l.length) = k by omega, List.getElem?_eq_getElem h]
  rw [List.getElem?_eq_getElem (by rw [mixed_length]; exact h)] at this
  exact Option.some.inj this
theorem mixed_set (f : Pc → Pc) (l : List Pc) (k : Nat) (h : k < l.length) : (mixed f l k).set k (f l[k]) = mixed f l (k + 1) := by
  unfold mixed
  rw [List.set_append_right _ _ (by rw [List.length_map, List.length_take]; omega)]
  simp only [List.length_map, List.length_take, Nat.min_eq_left (Nat.le_of_lt h), Nat.sub_self]
  rw [List.drop_eq_getElem_cons h, List.set_cons_zero, List.take_succ_eq_append_getElem h, List.map_append, List.append_assoc]
  rfl
theorem findFrom_mv (e s x y : Int) : ∀ (l : List Pc) (j : Int), findFrom (x + e) (y + s) (l.map (mv e s)) j = findFrom x y l j
  | [], _ => rfl
  | p :: l, j => by
    simp only [List.map_cons, findFrom, mv]
    by_cases h : p.x = x ∧ p.y = y
    · rw [if_pos h, if_pos (by omega)]
    · rw [if_neg h, if_neg (by omega), findFrom_mv e s x y l (j + 1)]
/-- a moved piece is on the board -/
def inB (wd hi e s : Int) (p : Pc) : Bool := decide (0 ≤ p.x + e ∧ p.x + e < wd ∧ 0 ≤ p.y + s ∧ p.y + s < hi)
theorem okFrom_mv {wd hi e s : Int} (hw : wd ≤ 24) (hh : hi ≤ 24) (l : List Pc) : ∀ (r : List Pc) (i : Nat), okFrom wd hi l i r = true → okFrom wd hi (l.map (mv e s)) i (r.map (mv e s)) = r.all (inB wd hi e s)
  | [], _, _ => rfl
  | p :: r, i, h => by
    simp only [okFrom, Bool.and_eq_true] at h
    simp only [List.map_cons, okFrom, List.all_cons]
    rw [okFrom_mv hw hh l r (i + 1) h.2]
    congr 1
    obtain ⟨⟨h1, h2⟩, h3⟩ := (by simpa [okOne, Bool.and_eq_true] using h.1 : (p.ok = true ∧ _) ∧ findFrom p.x p.y l 0 = i)
    have hf : findFrom (mv e s p).x (mv e s p).y (l.map (mv e s)) 0 = i := by rw [← h3]; exact findFrom_mv e s p.x p.y l 0
    have ho := of_decide_eq_true h1
    unfold okOne inB
    rw [hf]
    simp only [decide_true, Bool.and_true]
    by_cases g : 0 ≤ p.x + e ∧ p.x + e < wd ∧ 0 ≤ p.y + s ∧ p.y + s < hi
    · rw [decide_eq_true g, decide_eq_true (show 0 ≤ (mv e s p).x ∧ (mv e s p).x ≤ wd - 1 ∧ 0 ≤ (mv e s p).y ∧ (mv e s p).y ≤ hi - 1 by simp only [mv]; omega), Bool.and_true]
      exact decide_eq_true (by simp only [mv]; omega)
    · rw [decide_eq_false g, decide_eq_false (show ¬ (0 ≤ (mv e s p).x ∧ (mv e s p).x ≤ wd - 1 ∧ 0 ≤ (mv e s p).y ∧ (mv e s p).y ≤ hi - 1) by simp only [mv]; omega), Bool.and_false]
theorem boardOk_mv {wd hi e s : Int} {l : List Pc} (h : boardOk wd hi l = true) : boardOk wd hi (l.map (mv e s)) = l.all (inB wd hi e s) := by
  simp only [boardOk, Bool.and_eq_true, decide_eq_true_eq] at h
  unfold boardOk
  rw [okFrom_mv h.1.2.1 h.1.2.2.2.1 l l 0 h.2]
  have : decide (1 ≤ wd ∧ wd ≤ 24 ∧ 1 ≤ hi ∧ hi ≤ 24 ∧ (l.map (mv e s)).length ≤ 200) = true := by simp; omega
  rw [this]; simp
theorem mv_in8 {e s : Int} {p : Pc} (hp : p.in8) (ho : p.ok = true) (he : -24 ≤ e ∧ e ≤ 24) (hs : -24 ≤ s ∧ s ≤ 24) : (mv e s p).in8 := by
  have h := of_decide_eq_true ho
  obtain ⟨_, _, h3, h4, h5⟩ := hp
  unfold Pc.in8 mv i8 at *
  refine ⟨by simp only; omega, by simp only; omega, h3, h4, h5⟩
theorem moveQ_ok {R : Bool} {wd hi e s : Int} {l : List Pc} {Wr Hr : Int} {lr : List Pc} {C : Int} (h8 : All8 l) (hR : R = boardOk wd hi l) (h : moveQ R wd hi e s l = (Wr, Hr, lr, C)) (hl : l.length ≤ 1048576) : All8 lr ∧ lr.length ≤ 1048576 := by
  have hnil : All8 ([] : List Pc) ∧ ([] : List Pc).length ≤ 1048576 := ⟨fun p h => absurd h (by simp), by simp⟩
  unfold moveQ at h
  split at h
  · rename_i h1
    split at h
    · rename_i h2
      split at h
      · obtain ⟨_, _, rfl, _⟩ := four_inj h
        refine ⟨fun q hq => ?_, by simpa using hl⟩
        obtain ⟨p, hp, rfl⟩ := List.mem_map.1 hq
        exact mv_in8 (h8 p hp) (boardOk_ok (by rw [← hR]; exact h1) p hp) h2.1 h2.2
      · obtain ⟨_, _, rfl, _⟩ := four_inj h; exact hnil
    · obtain ⟨_, _, rfl, _⟩ := four_inj h; exact hnil
  · obtain ⟨_, _, rfl, _⟩ := four_inj h; exact hnil
theorem Pc.ok_at2 {p : Pc} (h : p.ok = true) : (0 ≤ p.x ∧ p.x ≤ 23) ∧ (0 ≤ p.y ∧ p.y ≤ 23) := by
  have := of_decide_eq_true h
  omega
def half (e : Int) (p : Pc) : Pc := ⟨p.x + e, p.y, p.kind, p.turn, p.delay⟩
/-- the two stores of a move -/
theorem OwnAt.mvx {w : World} {g k : Nat} {e s : Int} {l : List Pc} (h : OwnAt w g (mixed (mv e s) l k)) (hk : k < l.length) :
    OwnAt (w.setCell ⟨g, k * 5, none⟩ (.int .i8 (l[k].x + e))).drew g ((mixed (mv e s) l k).set k (half e l[k])) :=
  (h.put (k := k) (j := 0) (v := .int .i8 (l[k].x + e)) (q := half e l[k]) (by rw [mixed_length]; exact hk) (by omega) (by rw [mixed_get _ _ _ hk]; rfl)).drew
theorem OwnAt.mvy {w : World} {g k : Nat} {e s : Int} {l : List Pc} (hk : k < l.length) (h : OwnAt w g ((mixed (mv e s) l k).set k (half e l[k]))) :
    OwnAt (w.setCell ⟨g, k * 5 + 1, none⟩ (.int .i8 (l[k].y + s))).drew g (mixed (mv e s) l (k + 1)) := by
  have h2 := h.put (k := k) (j := 1) (v := .int .i8 (l[k].y + s)) (q := mv e s l[k]) (by rw [List.length_set, mixed_length]; exact hk) (by omega) (by rw [List.getElem_set_self]; rfl)
  rw [List.set_set, mixed_set _ _ _ hk] at h2
  exact h2.drew
theorem OwnAt.mvxy {w : World} {g k : Nat} {e s : Int} {l : List Pc} (h : OwnAt w g (mixed (mv e s) l k)) (hk : k < l.length) :
    OwnAt ((w.setCell ⟨g, k * 5, none⟩ (.int .i8 (l[k].x + e))).setCell ⟨g, k * 5 + 1, none⟩ (.int .i8 (l[k].y + s))) g (mixed (mv e s) l (k + 1)) := by
  have h1 := h.put (k := k) (j := 0) (v := .int .i8 (l[k].x + e)) (q := half e l[k]) (by rw [mixed_length]; exact hk) (by omega) (by rw [mixed_get _ _ _ hk]; rfl)
  have h2 := h1.put (k := k) (j := 1) (v := .int .i8 (l[k].y + s)) (q := mv e s l[k]) (by rw [List.length_set, mixed_length]; exact hk) (by omega) (by rw [List.getElem_set_self]; rfl)
  rw [List.set_set, mixed_set _ _ _ hk] at h2
  exact h2
end Go.Proofs.Ythancdlkkfegnaa
