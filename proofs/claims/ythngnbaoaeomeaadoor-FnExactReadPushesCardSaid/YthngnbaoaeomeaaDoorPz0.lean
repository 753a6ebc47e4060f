/- ReadPush..: the lines of a text. -/
import Derived.Test.YthngnbaoaeomeaaDoorPx0
import Derived.Test.YthngnbaoaeomeaaDoorG7
import Derived.Test.YthngnbaoaeomeaaDoorRwN
import Derived.Test.YthngnbaoaeomeaaDoorLn0
namespace Go.Proofs.YthngnbaoaeomeaaDoor
open Go.ChangeShapes Go.WideShapes Go.ChangeAt Go.RowKit Go.Joins Go.Deep
set_option linter.unusedVariables false
set_option linter.unusedSimpArgs false
theorem wfX_i8 {n : Int} (h : -128 ≤ n ∧ n ≤ 127) : (Lit.int .i8 n).wf = true := by
  simp [Lit.wf, IntKind.min, IntKind.max, IntKind.signed, IntKind.bits]
  omega
theorem wfX_i16 {n : Int} (h : -32768 ≤ n ∧ n ≤ 32767) : (Lit.int .i16 n).wf = true := by
  simp [Lit.wf, IntKind.min, IntKind.max, IntKind.signed, IntKind.bits]
  omega
theorem wfX_i64 {n : Int} (h : -9223372036854775808 ≤ n ∧ n ≤ 9223372036854775807) : (Lit.int .i64 n).wf = true := by
  simp [Lit.wf, IntKind.min, IntKind.max, IntKind.signed, IntKind.bits]
  omega

/-- a line without its end -/
def puB (p : Pu) : List UInt8 := Lib.join (puWs p) [32]
theorem puLine_end (p : Pu) : puLine p = endC 10 (puB p) := rfl
theorem puB_no (p : Pu) : (10 : UInt8) ∉ puB p := by
  intro h
  unfold puB puWs at h
  rw [join4] at h
  simp only [List.mem_append, List.mem_singleton] at h
  have h0 := decL_no (c := 10) (by decide) p.x
  have h1 := decL_no (c := 10) (by decide) p.y
  have h2 := side_no (c := 10) (by decide) p.side
  have h3 := decL_no (c := 10) (by decide) p.tick
  have h9 : (10 : UInt8) ≠ 32 := by decide
  rcases h with h | h | h | h | h | h | h
  all_goals first | exact h9 h | exact h0 h | exact h1 h | exact h2 h | exact h3 h
theorem puB_words (p : Pu) : spl 32 (puB p) = puWs p := by
  refine spl_join (c := 32) (ws := puWs p) (by simp [puWs]) (fun x hx => ?_)
  simp only [puWs, List.mem_cons, List.not_mem_nil, or_false] at hx
  rcases hx with rfl | rfl | rfl | rfl
  · exact decL_no (c := 32) (by decide) p.x
  · exact decL_no (c := 32) (by decide) p.y
  · exact side_no (c := 32) (by decide) p.side
  · exact decL_no (c := 32) (by decide) p.tick
theorem puL_flat (r : List Pu) : puL r = (r.map puB).flatMap (endC 10) := by
  unfold puL
  rw [List.flatMap_map]
  rfl
theorem pu_nos (r : List Pu) : ∀ x ∈ r.map puB, (10 : UInt8) ∉ x := by
  intro x hx
  obtain ⟨p, _, rfl⟩ := List.mem_map.1 hx
  exact puB_no p
theorem puL_lns (r : List Pu) : lns (puL r) = r.map puLine := by
  rw [puL_flat, lns_flat (pu_nos r), List.map_map]
  rfl
theorem puL_spl (r : List Pu) : spl 10 (puL r) = r.map puB ++ [[]] := by rw [puL_flat]; exact spl_lines (pu_nos r)
theorem puB_inj {p q : Pu} (hp : puIn p) (hq : puIn q) (h : puB p = puB q) : p = q := by
  have h1 := puB_words p
  rw [h, puB_words] at h1
  obtain ⟨a0, a1, a2, a3⟩ := p
  obtain ⟨b0, b1, b2, b3⟩ := q
  unfold puIn at hp hq
  simp only [puWs, List.cons.injEq, and_true] at h1
  simp only at hp hq
  obtain ⟨e0, e1, e2, e3⟩ := h1
  have := decL_inj (by omega) (by omega) e0
  have := decL_inj (by omega) (by omega) e1
  have := side_eq (by omega) (by omega) e2
  have := decL_inj (by omega) (by omega) e3
  simp only [Pu.mk.injEq]
  omega
theorem pus_inj : ∀ {l r : List Pu}, (∀ p ∈ l, puIn p) → (∀ p ∈ r, puIn p) → l.map puB = r.map puB → l = r
  | [], [], _, _, _ => rfl
  | [], q :: r, _, _, h => by simp at h
  | p :: l, [], _, _, h => by simp at h
  | p :: l, q :: r, hl, hr, h => by
    simp only [List.map_cons, List.cons.injEq] at h
    rw [puB_inj (hl p (List.mem_cons_self ..)) (hr q (List.mem_cons_self ..)) h.1, pus_inj (fun x hx => hl x (List.mem_cons_of_mem _ hx)) (fun x hx => hr x (List.mem_cons_of_mem _ hx)) h.2]
def pzOk (l : List Pu) : Bool := decide (l.length ≤ 20) && plains l
theorem pzOk_in {l : List Pu} (h : pzOk l = true) : l.length ≤ 20 ∧ ∀ p ∈ l, puIn p := by
  unfold pzOk at h
  simp only [Bool.and_eq_true, decide_eq_true_eq] at h
  exact ⟨h.1, fun p hp => puIn_of (plains_mem h.2 p hp)⟩
theorem puL_inj {l r : List Pu} (h1 : pzOk l = true) (h2 : pzOk r = true) (h : puL l = puL r) : l = r := by
  have e := puL_spl l
  rw [h, puL_spl] at e
  exact (pus_inj (pzOk_in h2).2 (pzOk_in h1).2 (List.append_inj_left' e rfl)).symm
theorem info_PuR : (Tryd.prog.info? 73).map (fun i => (i.zero, i.size, i.bytes)) = some (some (.agg #[.int .i8 0, .int .i8 0, .int .i8 0, .int .i16 0]), 4, 6) := by kernel_rfl
/-- the answer -/
def PzA (s : List UInt8) (l : List Pu) (C : Int) : Prop := (pzOk l = true ∧ puL l = s ∧ C = 0) ∨ ((∀ r, pzOk r = true → puL r ≠ s) ∧ l = [] ∧ C = 5)
theorem pzA_ex (s : List UInt8) : ∃ l C, PzA s l C := by
  by_cases h : ∃ r, pzOk r = true ∧ puL r = s
  · obtain ⟨r, h1, h2⟩ := h
    exact ⟨r, 0, .inl ⟨h1, h2, rfl⟩⟩
  · exact ⟨[], 5, .inr ⟨fun r h1 h2 => h ⟨r, h1, h2⟩, rfl, rfl⟩⟩
theorem PzA.yes {s : List UInt8} {l : List Pu} {C : Int} (h : PzA s l C) {r : List Pu} (h1 : pzOk r = true) (h2 : puL r = s) : l = r ∧ C = 0 := by
  rcases h with ⟨h3, h4, h5⟩ | ⟨h3, _⟩
  · exact ⟨puL_inj h3 h1 (h4.trans h2.symm), h5⟩
  · exact absurd h2 (h3 r h1)
theorem PzA.no {s : List UInt8} {l : List Pu} {C : Int} (h : PzA s l C) (h1 : ∀ r, pzOk r = true → puL r ≠ s) : l = [] ∧ C = 5 := by
  rcases h with ⟨h3, h4, _⟩ | ⟨_, h5⟩
  · exact absurd h4 (h1 l h3)
  · exact h5
theorem puIn_wf {p : Pu} (h : puIn p) : p.wf := by
  unfold puIn at h
  exact ⟨wfX_i8 (by omega), wfX_i8 (by omega), wfX_i8 (by omega), wfX_i16 (by omega)⟩
theorem PzA.fine {s : List UInt8} {l : List Pu} {C : Int} (h : PzA s l C) : PusWf l ∧ l.length ≤ 20 := by
  rcases h with ⟨h3, _⟩ | ⟨_, rfl, _⟩
  · have := pzOk_in h3
    exact ⟨fun p hp => puIn_wf (this.2 p hp), this.1⟩
  · exact ⟨fun p hp => by simp at hp, by simp⟩
/-- what stands fast when some lines are read by the program -/
def PzOf (s : List UInt8) (A : List Pu) : Prop := ∀ r, pzOk r = true → puL r = s → A = r.take A.length
theorem pz_len {s : List UInt8} {r : List Pu} (h : puL r = s) : (lns s).length = r.length := by rw [← h, puL_lns, List.length_map]
theorem pz_line {s : List UInt8} {r : List Pu} {k : Nat} (h : puL r = s) (hk : k < r.length) : Lib.trimSuffix (lnX s k) [10] = puB r[k] := by
  unfold lnX
  rw [← h, puL_lns, List.getD_eq_getElem?_getD, List.getElem?_map, List.getElem?_eq_getElem hk]
  simp only [Option.map_some, Option.getD_some]
  rw [puLine_end]
  exact trim_end _
theorem pz_step {s : List UInt8} {A : List Pu} {p : Pu} (h : PzOf s A) (hk : A.length < (lns s).length) (hp : ∀ q, puIn q → Lib.trimSuffix (lnX s A.length) [10] = puB q → p = q) : PzOf s (A ++ [p]) := by
  intro r h1 h2
  have e := h r h1 h2
  rw [pz_len h2] at hk
  have hq := hp r[A.length] ((pzOk_in h1).2 _ (List.getElem_mem hk)) (pz_line h2 hk)
  rw [List.length_append, List.length_cons, List.length_nil, List.take_succ_eq_append_getElem hk, ← e, hq]
theorem pz_no {s : List UInt8} {A : List Pu} (h : PzOf s A) (hk : A.length < (lns s).length) (hp : ∀ q, puIn q → Lib.trimSuffix (lnX s A.length) [10] ≠ puB q) : ∀ r, pzOk r = true → puL r ≠ s := by
  intro r h1 h2
  rw [pz_len h2] at hk
  exact hp r[A.length] ((pzOk_in h1).2 _ (List.getElem_mem hk)) (pz_line h2 hk)
theorem pz_full {s : List UInt8} {k : Nat} (hk : k < (lns s).length) (h : 20 ≤ k) : ∀ r, pzOk r = true → puL r ≠ s := by
  intro r h1 h2
  have := (pzOk_in h1).1
  rw [pz_len h2] at hk
  omega
theorem pz_end {s : List UInt8} {A : List Pu} (h : PzOf s A) (hk : A.length = (lns s).length) : ∀ r, pzOk r = true → puL r = s → A = r := by
  intro r h1 h2
  rw [h r h1 h2]
  exact List.take_of_length_le (by rw [hk, pz_len h2]; exact Nat.le_refl _)
/-- what a list's reader leaves -/
def PzPost (L : List Pu) (C : Int) (w : World) (e : Ending) (w' : World) : Prop := ∃ v, e = .returned (.tuple #[v, .int .i64 C]) ∧ SlWPu w.heap.size w'.heap.size w' L v ∧ Below w.heap.size w w'
end Go.Proofs.YthngnbaoaeomeaaDoor
