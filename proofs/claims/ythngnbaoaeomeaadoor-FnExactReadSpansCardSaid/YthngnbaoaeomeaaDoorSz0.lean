/- ReadSpans: the words of a text. -/
import Derived.Test.YthngnbaoaeomeaaDoorSpx
import Derived.Test.YthngnbaoaeomeaaDoorSqk
import Derived.Test.YthngnbaoaeomeaaDoorRwN
import Derived.Test.YthngnbaoaeomeaaDoorLn0
namespace Go.Proofs.YthngnbaoaeomeaaDoor
open Go.ChangeShapes Go.WideShapes Go.ChangeAt Go.RowKit Go.Joins Go.Deep
set_option linter.unusedVariables false
set_option linter.unusedSimpArgs false
theorem wfX_i8 {n : Int} (h : -128 ≤ n ∧ n ≤ 127) : (Lit.int .i8 n).wf = true := by
  simp [Lit.wf, IntKind.min, IntKind.max, IntKind.signed, IntKind.bits]
  omega

def sqIn (p : Sq) : Prop := 1 ≤ p.low ∧ p.low ≤ p.high ∧ p.high ≤ 9
theorem sqIn_iff {p : Sq} : spanB p = true ↔ sqIn p := by unfold spanB sqIn; simp
theorem info_SqR : (Tryd.prog.info? 89).map (fun i => (i.zero, i.size, i.bytes)) = some (some (.agg #[.int .i8 0, .int .i8 0]), 2, 2) := by kernel_rfl
theorem spW_no {c : UInt8} (h1 : c.toNat < 48) (h2 : (45 : UInt8) ≠ c) (p : Sq) : c ∉ spW p := by
  intro h
  unfold spW at h
  simp only [List.mem_append, List.mem_singleton] at h
  rcases h with (h | h) | h
  · exact decL_no h1 p.low h
  · exact h2 h.symm
  · exact decL_no h1 p.high h
theorem spW_words (p : Sq) : spl 45 (spW p) = [decL p.low, decL p.high] := by
  unfold spW
  rw [List.append_assoc, List.singleton_append, spl_app _ (decL_no (by decide) p.low), spl_word (decL_no (by decide) p.high)]
theorem spW_inj {p q : Sq} (hp : sqIn p) (hq : sqIn q) (h : spW p = spW q) : p = q := by
  have h1 := spW_words p
  rw [h, spW_words] at h1
  obtain ⟨a0, a1⟩ := p
  obtain ⟨b0, b1⟩ := q
  unfold sqIn at hp hq
  simp only [List.cons.injEq, and_true] at h1
  simp only at hp hq
  obtain ⟨e0, e1⟩ := h1
  have := decL_inj (by omega) (by omega) e0
  have := decL_inj (by omega) (by omega) e1
  simp only [Sq.mk.injEq]
  omega
theorem sqs_inj : ∀ {l r : List Sq}, (∀ p ∈ l, sqIn p) → (∀ p ∈ r, sqIn p) → l.map spW = r.map spW → l = r
  | [], [], _, _, _ => rfl
  | [], q :: r, _, _, h => by simp at h
  | p :: l, [], _, _, h => by simp at h
  | p :: l, q :: r, hl, hr, h => by
    simp only [List.map_cons, List.cons.injEq] at h
    rw [spW_inj (hl p (List.mem_cons_self ..)) (hr q (List.mem_cons_self ..)) h.1, sqs_inj (fun x hx => hl x (List.mem_cons_of_mem _ hx)) (fun x hx => hr x (List.mem_cons_of_mem _ hx)) h.2]
theorem spL_nil : spL [] = [] := rfl
theorem spL_words {r : List Sq} (h : r ≠ []) : spl 32 (spL r) = r.map spW := by
  unfold spL
  refine spl_join (by simpa using h) (fun x hx => ?_)
  obtain ⟨p, _, rfl⟩ := List.mem_map.1 hx
  exact spW_no (by decide) (by decide) p
theorem spW_ne (p : Sq) : spW p ≠ [] := by unfold spW; simp
theorem spL_ne {r : List Sq} (h : r ≠ []) : spL r ≠ [] := fun e => by
  have h2 := spL_words h
  rw [e, spl_nil] at h2
  cases r with
  | nil => exact h rfl
  | cons p r =>
    simp only [List.map_cons, List.cons.injEq] at h2
    exact spW_ne p h2.1.symm
def szOk (l : List Sq) : Bool := decide (l.length ≤ 60) && spansB l
theorem szOk_in {l : List Sq} (h : szOk l = true) : l.length ≤ 60 ∧ ∀ p ∈ l, sqIn p := by
  unfold szOk at h
  simp only [Bool.and_eq_true, decide_eq_true_eq] at h
  exact ⟨h.1, fun p hp => sqIn_iff.1 (List.all_eq_true.1 h.2 p hp)⟩
theorem spL_inj {l r : List Sq} (h1 : szOk l = true) (h2 : szOk r = true) (h : spL l = spL r) : l = r := by
  by_cases hl : l = []
  · by_cases hr : r = []
    · rw [hl, hr]
    · rw [hl] at h; exact absurd h.symm (spL_ne hr)
  · by_cases hr : r = []
    · rw [hr] at h; exact absurd h (spL_ne hl)
    · have e := spL_words hl
      rw [h, spL_words hr] at e
      exact (sqs_inj (szOk_in h2).2 (szOk_in h1).2 e).symm
/-- the answer -/
def SzA (s : List UInt8) (l : List Sq) (C : Int) : Prop := (szOk l = true ∧ spL l = s ∧ C = 0) ∨ ((∀ r, szOk r = true → spL r ≠ s) ∧ l = [] ∧ C = 5)
theorem szA_ex (s : List UInt8) : ∃ l C, SzA s l C := by
  by_cases h : ∃ r, szOk r = true ∧ spL r = s
  · obtain ⟨r, h1, h2⟩ := h
    exact ⟨r, 0, .inl ⟨h1, h2, rfl⟩⟩
  · exact ⟨[], 5, .inr ⟨fun r h1 h2 => h ⟨r, h1, h2⟩, rfl, rfl⟩⟩
theorem SzA.yes {s : List UInt8} {l : List Sq} {C : Int} (h : SzA s l C) {r : List Sq} (h1 : szOk r = true) (h2 : spL r = s) : l = r ∧ C = 0 := by
  rcases h with ⟨h3, h4, h5⟩ | ⟨h3, _⟩
  · exact ⟨spL_inj h3 h1 (h4.trans h2.symm), h5⟩
  · exact absurd h2 (h3 r h1)
theorem SzA.no {s : List UInt8} {l : List Sq} {C : Int} (h : SzA s l C) (h1 : ∀ r, szOk r = true → spL r ≠ s) : l = [] ∧ C = 5 := by
  rcases h with ⟨h3, h4, _⟩ | ⟨_, h5⟩
  · exact absurd h4 (h1 l h3)
  · exact h5
theorem sqIn_wf {p : Sq} (h : sqIn p) : p.wf := by
  unfold sqIn at h
  exact ⟨wfX_i8 (by omega), wfX_i8 (by omega)⟩
theorem SzA.fine {s : List UInt8} {l : List Sq} {C : Int} (h : SzA s l C) : SqsWf l ∧ l.length ≤ 60 := by
  rcases h with ⟨h3, _⟩ | ⟨_, rfl, _⟩
  · have := szOk_in h3
    exact ⟨fun p hp => sqIn_wf (this.2 p hp), this.1⟩
  · exact ⟨fun p hp => by simp at hp, by simp⟩
/-- what stands fast when some words are read: whoever has this text begins so -/
def SzOf (s : List UInt8) (A : List Sq) : Prop := ∀ r, szOk r = true → spL r = s → A = r.take A.length
theorem sz_ws {s : List UInt8} (hs : s ≠ []) {r : List Sq} (h : spL r = s) : spl 32 s = r.map spW := by
  rw [← h]
  refine spL_words (fun e => hs ?_)
  rw [← h, e, spL_nil]
theorem sz_step {s : List UInt8} (hs : s ≠ []) {A : List Sq} {p : Sq} {x : List UInt8} (h : SzOf s A) (hx : (spl 32 s)[A.length]? = some x) (hp : ∀ q, sqIn q → x = spW q → p = q) : SzOf s (A ++ [p]) := by
  intro r h1 h2
  have e := h r h1 h2
  rw [sz_ws hs h2, List.getElem?_map] at hx
  obtain ⟨q, hq1, hq2⟩ := Option.map_eq_some_iff.1 hx
  obtain ⟨hk, hq3⟩ := List.getElem?_eq_some_iff.1 hq1
  have hq := hp q (by rw [← hq3]; exact (szOk_in h1).2 _ (List.getElem_mem hk)) hq2.symm
  rw [List.length_append, List.length_cons, List.length_nil, List.take_succ_eq_append_getElem hk, ← e, hq, hq3]
theorem sz_no {s : List UInt8} (hs : s ≠ []) {k : Nat} {x : List UInt8} (hx : (spl 32 s)[k]? = some x) (hp : ∀ q, sqIn q → x ≠ spW q) : ∀ r, szOk r = true → spL r ≠ s := by
  intro r h1 h2
  rw [sz_ws hs h2, List.getElem?_map] at hx
  obtain ⟨q, hq1, hq2⟩ := Option.map_eq_some_iff.1 hx
  obtain ⟨hk, hq3⟩ := List.getElem?_eq_some_iff.1 hq1
  exact hp q (by rw [← hq3]; exact (szOk_in h1).2 _ (List.getElem_mem hk)) hq2.symm
theorem sz_full {s : List UInt8} (hs : s ≠ []) {k : Nat} (hk : k < (spl 32 s).length) (h : 60 ≤ k) : ∀ r, szOk r = true → spL r ≠ s := by
  intro r h1 h2
  have := (szOk_in h1).1
  rw [sz_ws hs h2, List.length_map] at hk
  omega
theorem sz_end {s : List UInt8} (hs : s ≠ []) {A : List Sq} (h : SzOf s A) (hk : A.length = (spl 32 s).length) : ∀ r, szOk r = true → spL r = s → A = r := by
  intro r h1 h2
  rw [h r h1 h2]
  exact List.take_of_length_le (by rw [hk, sz_ws hs h2, List.length_map]; exact Nat.le_refl _)
theorem sz_empty {r : List Sq} (h : spL r = []) : r = [] := by
  by_cases hr : r = []
  · exact hr
  · exact absurd h (spL_ne hr)
/-- what a list's reader leaves -/
def SzPost (L : List Sq) (C : Int) (w : World) (e : Ending) (w' : World) : Prop := ∃ v, e = .returned (.tuple #[v, .int .i64 C]) ∧ SlWSq w.heap.size w'.heap.size w' L v ∧ Below w.heap.size w w'
end Go.Proofs.YthngnbaoaeomeaaDoor
