/- ReadKnock..: the lines of a text. -/
import Derived.Test.YthngnbaoaeomeaaDoorKn0
import Derived.Test.YthngnbaoaeomeaaDoorKok
import Derived.Test.YthngnbaoaeomeaaDoorRwN
import Derived.Test.YthngnbaoaeomeaaDoorLn0
namespace Go.Proofs.YthngnbaoaeomeaaDoor
open Go.ChangeShapes Go.WideShapes Go.ChangeAt Go.RowKit Go.Joins Go.Deep
set_option linter.unusedVariables false
set_option linter.unusedSimpArgs false
theorem wfX_i8 {n : Int} (h : -128 ≤ n ∧ n ≤ 127) : (Lit.int .i8 n).wf = true := by
  simp [Lit.wf, IntKind.min, IntKind.max, IntKind.signed, IntKind.bits]
  omega
theorem wfX_i16 {n : Int} (h : -32768 ≤ n ∧ n ≤ 32767) : (Lit.int .i16 n).wf = true := by
  simp [Lit.wf, IntKind.min, IntKind.max, IntKind.signed, IntKind.bits]
  omega
theorem wfX_i64 {n : Int} (h : -9223372036854775808 ≤ n ∧ n ≤ 9223372036854775807) : (Lit.int .i64 n).wf = true := by
  simp [Lit.wf, IntKind.min, IntKind.max, IntKind.signed, IntKind.bits]
  omega

/-- a line without its end -/
def koB (p : Ko) : List UInt8 := Lib.join (koWs p) [32]
theorem koLine_end (p : Ko) : koLine p = endC 10 (koB p) := rfl
theorem koB_no (p : Ko) : (10 : UInt8) ∉ koB p := by
  intro h
  unfold koB koWs at h
  rw [join3] at h
  simp only [List.mem_append, List.mem_singleton] at h
  have h0 := decL_no (c := 10) (by decide) p.after
  have h1 := decL_no (c := 10) (by decide) p.piece
  have h2 := side_no (c := 10) (by decide) p.side
  have h9 : (10 : UInt8) ≠ 32 := by decide
  rcases h with h | h | h | h | h
  all_goals first | exact h9 h | exact h0 h | exact h1 h | exact h2 h
theorem koB_words (p : Ko) : spl 32 (koB p) = koWs p := by
  refine spl_join (c := 32) (ws := koWs p) (by simp [koWs]) (fun x hx => ?_)
  simp only [koWs, List.mem_cons, List.not_mem_nil, or_false] at hx
  rcases hx with rfl | rfl | rfl
  · exact decL_no (c := 32) (by decide) p.after
  · exact decL_no (c := 32) (by decide) p.piece
  · exact side_no (c := 32) (by decide) p.side
theorem koL_flat (r : List Ko) : koL r = (r.map koB).flatMap (endC 10) := by
  unfold koL
  rw [List.flatMap_map]
  rfl
theorem ko_nos (r : List Ko) : ∀ x ∈ r.map koB, (10 : UInt8) ∉ x := by
  intro x hx
  obtain ⟨p, _, rfl⟩ := List.mem_map.1 hx
  exact koB_no p
theorem koL_lns (r : List Ko) : lns (koL r) = r.map koLine := by
  rw [koL_flat, lns_flat (ko_nos r), List.map_map]
  rfl
theorem koL_spl (r : List Ko) : spl 10 (koL r) = r.map koB ++ [[]] := by rw [koL_flat]; exact spl_lines (ko_nos r)
theorem koB_inj {p q : Ko} (hp : koIn p) (hq : koIn q) (h : koB p = koB q) : p = q := by
  have h1 := koB_words p
  rw [h, koB_words] at h1
  obtain ⟨a0, a1, a2⟩ := p
  obtain ⟨b0, b1, b2⟩ := q
  unfold koIn at hp hq
  simp only [koWs, List.cons.injEq, and_true] at h1
  simp only at hp hq
  obtain ⟨e0, e1, e2⟩ := h1
  have := decL_inj (by omega) (by omega) e0
  have := decL_inj (by omega) (by omega) e1
  have := side_eq (by omega) (by omega) e2
  simp only [Ko.mk.injEq]
  omega
theorem kos_inj : ∀ {l r : List Ko}, (∀ p ∈ l, koIn p) → (∀ p ∈ r, koIn p) → l.map koB = r.map koB → l = r
  | [], [], _, _, _ => rfl
  | [], q :: r, _, _, h => by simp at h
  | p :: l, [], _, _, h => by simp at h
  | p :: l, q :: r, hl, hr, h => by
    simp only [List.map_cons, List.cons.injEq] at h
    rw [koB_inj (hl p (List.mem_cons_self ..)) (hr q (List.mem_cons_self ..)) h.1, kos_inj (fun x hx => hl x (List.mem_cons_of_mem _ hx)) (fun x hx => hr x (List.mem_cons_of_mem _ hx)) h.2]
def krOk (l : List Ko) : Bool := decide (l.length ≤ 60) && kplains l
theorem krOk_in {l : List Ko} (h : krOk l = true) : l.length ≤ 60 ∧ ∀ p ∈ l, koIn p := by
  unfold krOk at h
  simp only [Bool.and_eq_true, decide_eq_true_eq] at h
  exact ⟨h.1, fun p hp => koIn_of (kplains_mem h.2 p hp)⟩
theorem koL_inj {l r : List Ko} (h1 : krOk l = true) (h2 : krOk r = true) (h : koL l = koL r) : l = r := by
  have e := koL_spl l
  rw [h, koL_spl] at e
  exact (kos_inj (krOk_in h2).2 (krOk_in h1).2 (List.append_inj_left' e rfl)).symm
theorem info_KoR : (Tryd.prog.info? 82).map (fun i => (i.zero, i.size, i.bytes)) = some (some (.agg #[.int .i64 0, .int .i64 0, .int .i8 0]), 3, 24) := by kernel_rfl
/-- the answer -/
def KrA (s : List UInt8) (l : List Ko) (C : Int) : Prop := (krOk l = true ∧ koL l = s ∧ C = 0) ∨ ((∀ r, krOk r = true → koL r ≠ s) ∧ l = [] ∧ C = 5)
theorem krA_ex (s : List UInt8) : ∃ l C, KrA s l C := by
  by_cases h : ∃ r, krOk r = true ∧ koL r = s
  · obtain ⟨r, h1, h2⟩ := h
    exact ⟨r, 0, .inl ⟨h1, h2, rfl⟩⟩
  · exact ⟨[], 5, .inr ⟨fun r h1 h2 => h ⟨r, h1, h2⟩, rfl, rfl⟩⟩
theorem KrA.yes {s : List UInt8} {l : List Ko} {C : Int} (h : KrA s l C) {r : List Ko} (h1 : krOk r = true) (h2 : koL r = s) : l = r ∧ C = 0 := by
  rcases h with ⟨h3, h4, h5⟩ | ⟨h3, _⟩
  · exact ⟨koL_inj h3 h1 (h4.trans h2.symm), h5⟩
  · exact absurd h2 (h3 r h1)
theorem KrA.no {s : List UInt8} {l : List Ko} {C : Int} (h : KrA s l C) (h1 : ∀ r, krOk r = true → koL r ≠ s) : l = [] ∧ C = 5 := by
  rcases h with ⟨h3, h4, _⟩ | ⟨_, h5⟩
  · exact absurd h4 (h1 l h3)
  · exact h5
theorem koIn_wf {p : Ko} (h : koIn p) : p.wf := by
  unfold koIn at h
  exact ⟨wfX_i64 (by omega), wfX_i64 (by omega), wfX_i8 (by omega)⟩
theorem KrA.fine {s : List UInt8} {l : List Ko} {C : Int} (h : KrA s l C) : KosWf l ∧ l.length ≤ 60 := by
  rcases h with ⟨h3, _⟩ | ⟨_, rfl, _⟩
  · have := krOk_in h3
    exact ⟨fun p hp => koIn_wf (this.2 p hp), this.1⟩
  · exact ⟨fun p hp => by simp at hp, by simp⟩
/-- what stands fast when some lines are read by the program -/
def KrOf (s : List UInt8) (A : List Ko) : Prop := ∀ r, krOk r = true → koL r = s → A = r.take A.length
theorem kr_len {s : List UInt8} {r : List Ko} (h : koL r = s) : (lns s).length = r.length := by rw [← h, koL_lns, List.length_map]
theorem kr_line {s : List UInt8} {r : List Ko} {k : Nat} (h : koL r = s) (hk : k < r.length) : Lib.trimSuffix (lnX s k) [10] = koB r[k] := by
  unfold lnX
  rw [← h, koL_lns, List.getD_eq_getElem?_getD, List.getElem?_map, List.getElem?_eq_getElem hk]
  simp only [Option.map_some, Option.getD_some]
  rw [koLine_end]
  exact trim_end _
theorem kr_step {s : List UInt8} {A : List Ko} {p : Ko} (h : KrOf s A) (hk : A.length < (lns s).length) (hp : ∀ q, koIn q → Lib.trimSuffix (lnX s A.length) [10] = koB q → p = q) : KrOf s (A ++ [p]) := by
  intro r h1 h2
  have e := h r h1 h2
  rw [kr_len h2] at hk
  have hq := hp r[A.length] ((krOk_in h1).2 _ (List.getElem_mem hk)) (kr_line h2 hk)
  rw [List.length_append, List.length_cons, List.length_nil, List.take_succ_eq_append_getElem hk, ← e, hq]
theorem kr_no {s : List UInt8} {A : List Ko} (h : KrOf s A) (hk : A.length < (lns s).length) (hp : ∀ q, koIn q → Lib.trimSuffix (lnX s A.length) [10] ≠ koB q) : ∀ r, krOk r = true → koL r ≠ s := by
  intro r h1 h2
  rw [kr_len h2] at hk
  exact hp r[A.length] ((krOk_in h1).2 _ (List.getElem_mem hk)) (kr_line h2 hk)
theorem kr_full {s : List UInt8} {k : Nat} (hk : k < (lns s).length) (h : 60 ≤ k) : ∀ r, krOk r = true → koL r ≠ s := by
  intro r h1 h2
  have := (krOk_in h1).1
  rw [kr_len h2] at hk
  omega
theorem kr_end {s : List UInt8} {A : List Ko} (h : KrOf s A) (hk : A.length = (lns s).length) : ∀ r, krOk r = true → koL r = s → A = r := by
  intro r h1 h2
  rw [h r h1 h2]
  exact List.take_of_length_le (by rw [hk, kr_len h2]; exact Nat.le_refl _)
/-- what a list's reader leaves -/
def KrPost (L : List Ko) (C : Int) (w : World) (e : Ending) (w' : World) : Prop := ∃ v, e = .returned (.tuple #[v, .int .i64 C]) ∧ SlWKo w.heap.size w'.heap.size w' L v ∧ Below w.heap.size w w'
end Go.Proofs.YthngnbaoaeomeaaDoor
