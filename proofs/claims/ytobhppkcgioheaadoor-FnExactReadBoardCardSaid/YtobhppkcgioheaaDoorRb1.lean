/- ReadBoard: a word of kinds; the lines of a board's text. -/
import Derived.Test.YtobhppkcgioheaaDoorRw0
import Derived.Test.YtobhppkcgioheaaDoorBt0
import Derived.Test.YtobhppkcgioheaaDoorBtS
namespace Go.Proofs.YtobhppkcgioheaaDoor
open Go.ChangeShapes Go.WideShapes Go.ChangeAt Go.RowKit Go.Joins Go.Deep
set_option linter.unusedVariables false
set_option linter.unusedSimpArgs false
theorem ixkindWL0 (a0 a1 a2 a3 a4 a5 : Value) (w : World) : (Instr.index 165 (.agg #[a0, a1, a2, a3, a4, a5]) (.int .i64 0)).run Tryd.prog w = .ok a0 w := by kernel_rfl
theorem ixkindWL1 (a0 a1 a2 a3 a4 a5 : Value) (w : World) : (Instr.index 165 (.agg #[a0, a1, a2, a3, a4, a5]) (.int .i64 1)).run Tryd.prog w = .ok a1 w := by kernel_rfl
theorem ixkindWL2 (a0 a1 a2 a3 a4 a5 : Value) (w : World) : (Instr.index 165 (.agg #[a0, a1, a2, a3, a4, a5]) (.int .i64 2)).run Tryd.prog w = .ok a2 w := by kernel_rfl
theorem ixkindWL3 (a0 a1 a2 a3 a4 a5 : Value) (w : World) : (Instr.index 165 (.agg #[a0, a1, a2, a3, a4, a5]) (.int .i64 3)).run Tryd.prog w = .ok a3 w := by kernel_rfl
theorem ixkindWL4 (a0 a1 a2 a3 a4 a5 : Value) (w : World) : (Instr.index 165 (.agg #[a0, a1, a2, a3, a4, a5]) (.int .i64 4)).run Tryd.prog w = .ok a4 w := by kernel_rfl
theorem ixkindWL5 (a0 a1 a2 a3 a4 a5 : Value) (w : World) : (Instr.index 165 (.agg #[a0, a1, a2, a3, a4, a5]) (.int .i64 5)).run Tryd.prog w = .ok a5 w := by kernel_rfl
theorem ixkindWL (f : Nat → ByteArray) (k : Nat) (hk : k < 6) (w : World) : (Instr.index 165 (.agg #[.string (f 0), .string (f 1), .string (f 2), .string (f 3), .string (f 4), .string (f 5)]) (.int .i64 k)).run Tryd.prog w = .ok (.string (f k)) w := by
  have : k = 0 ∨ k = 1 ∨ k = 2 ∨ k = 3 ∨ k = 4 ∨ k = 5 := by omega
  rcases this with rfl | rfl | rfl | rfl | rfl | rfl
  · exact ixkindWL0 _ _ _ _ _ _ w
  · exact ixkindWL1 _ _ _ _ _ _ w
  · exact ixkindWL2 _ _ _ _ _ _ w
  · exact ixkindWL3 _ _ _ _ _ _ w
  · exact ixkindWL4 _ _ _ _ _ _ w
  · exact ixkindWL5 _ _ _ _ _ _ w
set_option maxRecDepth 100000 in
set_option maxHeartbeats 2000000 in
theorem kindNamed_any (s : List UInt8) (w : World) (hst : KindAt w) : Calls Tryd.prog 132 #[.string (bsT s)] w (NmP kindWL 6 s w) := by
  obtain ⟨S, hS⟩ : ∃ S, bsT s = S := ⟨_, rfl⟩
  obtain ⟨fW, hfW⟩ : ∃ fW : Nat → ByteArray, fW = fun k : Nat => bsT (kindWL (k : Int)) := ⟨_, rfl⟩
  have HF := Lib.hid hfW
  have HS := Lib.hid hS
  have hN0 : Hid (∀ i : Nat, i < 0 → s ≠ kindWL i) := Lib.hid (fun i h => by omega)
  obtain ⟨h1, h2⟩ := hst
  have c0 : w.cell? ⟨3, 0, none⟩ = some (.string (fW 0)) := by rw [hfW]; exact h1 0 (by omega)
  have c1 : w.cell? ⟨3, 1, none⟩ = some (.string (fW 1)) := by rw [hfW]; exact h1 1 (by omega)
  have c2 : w.cell? ⟨3, 2, none⟩ = some (.string (fW 2)) := by rw [hfW]; exact h1 2 (by omega)
  have c3 : w.cell? ⟨3, 3, none⟩ = some (.string (fW 3)) := by rw [hfW]; exact h1 3 (by omega)
  have c4 : w.cell? ⟨3, 4, none⟩ = some (.string (fW 4)) := by rw [hfW]; exact h1 4 (by omega)
  have c5 : w.cell? ⟨3, 5, none⟩ = some (.string (fW 5)) := by rw [hfW]; exact h1 5 (by omega)
  rw [hS]
  clear hS h1 hfW
  go_enter Tryd.func132, Tryd.ntmps132
  go_wp2
  go_loopw [4, 5, 7] (fun _ _ vi wr => ∃ j : Nat, j ≤ 6 ∧ vi = .int .i64 j ∧ Hid (∀ i : Nat, i < j → s ≠ kindWL i) ∧ w = wr) (fun _ _ vi _ => 6 - (intOf vi).toNat)
  case atStart => exact ⟨0, by omega, rfl, hN0, rfl⟩
  case round =>
    clear hN0 c0 c1 c2 c3 c4 c5
    obtain ⟨j, hj, rfl, HN, rfl⟩ := hrel
    by_cases hlt : j < 6
    · have hix := ixkindWL fW j hlt
      obtain ⟨V, hV⟩ : ∃ V, fW j = V := ⟨_, rfl⟩
      have hV2 : V = bsT (kindWL (j : Int)) := by rw [← hV, HF.out]
      rw [hV] at hix
      have hjZ : (j : Int) < 6 := by omega
      clear hV
      by_cases he : s = kindWL j
      · have e2 : V.toList = S.toList := by rw [hV2, ← HS.out, toL_bsT, toL_bsT, he]
        have e1 : (V.toList == S.toList) = true := by rw [e2]; exact beq_self_eq_true _
        have wj : IntKind.i8.wrap (j : Int) = j := IntWalk.i8_in _ (by omega)
        have HE := Lib.hid he
        clear he hV2 HN HF
        go_wp2
        go_ret2
        exact ⟨rfl, .inl ⟨j, hlt, rfl, HE.out⟩⟩
      · have e2 : ¬ V.toList = S.toList := by rw [hV2, ← HS.out, toL_bsT, toL_bsT]; exact fun h => he h.symm
        have e1 : (V.toList == S.toList) = false := beq_eq_false_iff_ne.2 e2
        have HN2 := Lib.hid (show ∀ i : Nat, i < j + 1 → s ≠ kindWL i from fun i hi => by
          by_cases h : i = j
          · rw [h]; exact he
          · exact HN.out i (by omega))
        clear he hV2 HN
        go_wp2
        exact ⟨⟨j + 1, by omega, by go_num, HN2, by trivial⟩, by simp [intOf]; omega⟩
    · obtain rfl : j = 6 := by omega
      clear HF
      go_wp2
      go_ret2
      exact ⟨rfl, .inr ⟨rfl, HN.out⟩⟩
theorem kindNamed2_any (s : List UInt8) (w : World) (hst : KindAt w) : Calls Tryd.prog 132 #[.string (bsT s)] w (NmP2 kindWL 6 s w) := (kindNamed_any s w hst).mono fun _ _ h => h.two

/-- a line of a piece without its end -/
def pcL (p : Pc) : List UInt8 := Lib.join (pcWs p) [32]
def hdL (wd hi : Int) : List UInt8 := Lib.join [decL wd, decL hi] [32]
def bdLs (wd hi : Int) (l : List Pc) : List (List UInt8) := hdL wd hi :: l.map pcL
theorem pcL_no (p : Pc) : (10 : UInt8) ∉ pcL p := by
  intro h
  unfold pcL pcWs at h
  rw [join5] at h
  simp only [List.mem_append, List.mem_singleton] at h
  have h1 := decL_no (c := 10) (by decide) p.x
  have h2 := decL_no (c := 10) (by decide) p.y
  have h3 := kind_no (c := 10) (by decide) p.kind
  have h4 := decL_no (c := 10) (by decide) p.turn
  have h5 := decL_no (c := 10) (by decide) p.delay
  have h6 : (10 : UInt8) ≠ 32 := by decide
  rcases h with h | h | h | h | h | h | h | h | h
  · exact h1 h
  · exact h6 h
  · exact h2 h
  · exact h6 h
  · exact h3 h
  · exact h6 h
  · exact h4 h
  · exact h6 h
  · exact h5 h
theorem hdL_no (wd hi : Int) : (10 : UInt8) ∉ hdL wd hi := by
  intro h
  unfold hdL at h
  rw [join2] at h
  simp only [List.mem_append, List.mem_singleton] at h
  have h1 := decL_no (c := 10) (by decide) wd
  have h2 := decL_no (c := 10) (by decide) hi
  have h6 : (10 : UInt8) ≠ 32 := by decide
  rcases h with h | h | h
  · exact h1 h
  · exact h6 h
  · exact h2 h
theorem pcL_words (p : Pc) : spl 32 (pcL p) = pcWs p := by
  refine spl_join (c := 32) (ws := pcWs p) (by simp [pcWs]) (fun x hx => ?_)
  simp only [pcWs, List.mem_cons, List.not_mem_nil, or_false] at hx
  rcases hx with rfl | rfl | rfl | rfl | rfl
  · exact decL_no (by decide) _
  · exact decL_no (by decide) _
  · exact kind_no (by decide) _
  · exact decL_no (by decide) _
  · exact decL_no (by decide) _
theorem hdL_words (wd hi : Int) : spl 32 (hdL wd hi) = [decL wd, decL hi] := by
  refine spl_join (c := 32) (ws := [decL wd, decL hi]) (by simp) (fun x hx => ?_)
  simp only [List.mem_cons, List.not_mem_nil, or_false] at hx
  rcases hx with rfl | rfl
  · exact decL_no (by decide) _
  · exact decL_no (by decide) _
theorem bdL_lines (wd hi : Int) (l : List Pc) : bdL wd hi l = (bdLs wd hi l).flatMap (endC 10) := by
  unfold bdL bdLs
  rw [List.flatMap_cons, List.flatMap_map]
  rfl
theorem bdLs_no (wd hi : Int) (l : List Pc) : ∀ x ∈ bdLs wd hi l, (10 : UInt8) ∉ x := by
  intro x hx
  unfold bdLs at hx
  rcases List.mem_cons.1 hx with rfl | hx
  · exact hdL_no _ _
  · obtain ⟨p, _, rfl⟩ := List.mem_map.1 hx
    exact pcL_no p
theorem bd_split (wd hi : Int) (l : List Pc) : spl 10 (bdL wd hi l) = bdLs wd hi l ++ [[]] := by
  rw [bdL_lines]; exact spl_lines (bdLs_no wd hi l)
theorem bd_trim (wd hi : Int) (l : List Pc) : spl 10 (Lib.trimSuffix (bdL wd hi l) [10]) = bdLs wd hi l := by
  rw [bdL_lines]; exact trim_lines (by simp [bdLs]) (bdLs_no wd hi l)
theorem kind_eq {a b : Int} (ha : 0 ≤ a ∧ a ≤ 5) (hb : 0 ≤ b ∧ b ≤ 5) (h : kindWL a = kindWL b) : a = b := by
  obtain ⟨a, rfl⟩ : ∃ n : Nat, a = n := ⟨a.toNat, by omega⟩
  obtain ⟨b, rfl⟩ : ∃ n : Nat, b = n := ⟨b.toNat, by omega⟩
  have := kind_inj a b (by omega) (by omega) h
  omega
theorem pcL_inj {p q : Pc} (hp : pcIn p) (hq : pcIn q) (h : pcL p = pcL q) : p = q := by
  have h1 := pcL_words p
  rw [h, pcL_words] at h1
  obtain ⟨a0, a1, a2, a3, a4⟩ := p
  obtain ⟨b0, b1, b2, b3, b4⟩ := q
  unfold pcIn at hp hq
  simp only [pcWs, List.cons.injEq, and_true] at h1
  simp only at hp hq
  obtain ⟨e0, e1, e2, e3, e4⟩ := h1
  have := decL_inj (by omega) (by omega) e0
  have := decL_inj (by omega) (by omega) e1
  have := kind_eq (by omega) (by omega) e2
  have := decL_inj (by omega) (by omega) e3
  have := decL_inj (by omega) (by omega) e4
  simp only [Pc.mk.injEq]
  omega
theorem pcs_inj : ∀ {l r : List Pc}, (∀ p ∈ l, pcIn p) → (∀ p ∈ r, pcIn p) → l.map pcL = r.map pcL → l = r
  | [], [], _, _, _ => rfl
  | [], q :: r, _, _, h => by simp at h
  | p :: l, [], _, _, h => by simp at h
  | p :: l, q :: r, hl, hr, h => by
    simp only [List.map_cons, List.cons.injEq] at h
    rw [pcL_inj (hl p (List.mem_cons_self ..)) (hr q (List.mem_cons_self ..)) h.1, pcs_inj (fun x hx => hl x (List.mem_cons_of_mem _ hx)) (fun x hx => hr x (List.mem_cons_of_mem _ hx)) h.2]
theorem bd_inj {wd hi wd2 hi2 : Int} {l r : List Pc} (h1 : boardOk wd hi l = true) (h2 : boardOk wd2 hi2 r = true) (h : bdL wd hi l = bdL wd2 hi2 r) : wd = wd2 ∧ hi = hi2 ∧ l = r := by
  have e := bd_split wd hi l
  rw [h, bd_split] at e
  have e := List.append_inj_left' e rfl
  unfold bdLs at e
  simp only [List.cons.injEq] at e
  have s1 := bd_sides h1
  have s2 := bd_sides h2
  have e3 := hdL_words wd hi
  rw [← e.1, hdL_words] at e3
  simp only [List.cons.injEq, and_true] at e3
  exact ⟨(decL_inj (by omega) (by omega) e3.1).symm, (decL_inj (by omega) (by omega) e3.2).symm, (pcs_inj (fun p hp => pcIn_of h2 hp) (fun p hp => pcIn_of h1 hp) e.2).symm⟩
/-- the answer of ReadBoard -/
def RbA (s : List UInt8) (wd hi : Int) (l : List Pc) (C : Int) : Prop := (boardOk wd hi l = true ∧ bdL wd hi l = s ∧ C = 0) ∨ ((∀ a b r, boardOk a b r = true → bdL a b r ≠ s) ∧ wd = 0 ∧ hi = 0 ∧ l = [] ∧ C = 5)
theorem rbA_ex (s : List UInt8) : ∃ wd hi l C, RbA s wd hi l C := by
  by_cases h : ∃ a b r, boardOk a b r = true ∧ bdL a b r = s
  · obtain ⟨a, b, r, h1, h2⟩ := h
    exact ⟨a, b, r, 0, .inl ⟨h1, h2, rfl⟩⟩
  · exact ⟨0, 0, [], 5, .inr ⟨fun a b r h1 h2 => h ⟨a, b, r, h1, h2⟩, rfl, rfl, rfl, rfl⟩⟩
theorem RbA.yes {s : List UInt8} {wd hi : Int} {l : List Pc} {C : Int} (h : RbA s wd hi l C) {a b : Int} {r : List Pc} (h1 : boardOk a b r = true) (h2 : bdL a b r = s) : wd = a ∧ hi = b ∧ l = r ∧ C = 0 := by
  rcases h with ⟨h3, h4, h5⟩ | ⟨h3, _⟩
  · obtain ⟨e1, e2, e3⟩ := bd_inj h3 h1 (h4.trans h2.symm)
    exact ⟨e1, e2, e3, h5⟩
  · exact absurd h2 (h3 a b r h1)
theorem RbA.no {s : List UInt8} {wd hi : Int} {l : List Pc} {C : Int} (h : RbA s wd hi l C) (h1 : ∀ a b r, boardOk a b r = true → bdL a b r ≠ s) : wd = 0 ∧ hi = 0 ∧ l = [] ∧ C = 5 := by
  rcases h with ⟨h3, h4, _⟩ | ⟨_, h5⟩
  · exact absurd h4 (h1 wd hi l h3)
  · exact h5
theorem RbA.fine {s : List UInt8} {wd hi : Int} {l : List Pc} {C : Int} (h : RbA s wd hi l C) : i8 wd ∧ i8 hi ∧ All8 l ∧ l.length ≤ 200 := by
  rcases h with ⟨h3, _⟩ | ⟨_, rfl, rfl, rfl, _⟩
  · have := bd_sides h3
    refine ⟨by unfold i8; omega, by unfold i8; omega, fun p hp => ?_, by omega⟩
    have := pcIn_of h3 hp
    unfold pcIn at this
    unfold Pc.in8 i8
    omega
  · exact ⟨by unfold i8; omega, by unfold i8; omega, fun p hp => by simp at hp, by simp⟩
/-- what the model's reading of a line tells -/
structure MpQ (s : List UInt8) (p : Pc) (ok : Bool) : Prop where
  in8 : p.in8
  yes : ok = true → 0 ≤ p.kind → s = pcL p
  of : ∀ q, pcIn q → s = pcL q → ok = true ∧ p = q
def pcZ : Pc := ⟨0, 0, 0, 0, 0⟩
theorem mp_len {s : List UInt8} (h : (spl 32 s).length ≠ 5) : MpQ s pcZ false :=
  ⟨by unfold Pc.in8 i8 pcZ; simp, (fun h => by cases h), fun q _ h2 => absurd (by rw [h2, pcL_words]; rfl) h⟩
theorem five {ws : List (List UInt8)} (h : ws.length = 5) : ∃ a0 a1 a2 a3 a4, ws = [a0, a1, a2, a3, a4] := by
  match ws, h with
  | [a0, a1, a2, a3, a4], _ => exact ⟨a0, a1, a2, a3, a4, rfl⟩
theorem mp_five {s a0 a1 a2 a3 a4 : List UInt8} {k : Int} (hw : spl 32 s = [a0, a1, a2, a3, a4]) (hk : WdQ kindWL 6 a2 k) : MpQ s ⟨smX a0, smX a1, k, smX a3, smX a4⟩ (((smB a0 && smB a1) && smB a3) && smB a4) := by
  have q0 := smQ_any a0
  have q1 := smQ_any a1
  have q3 := smQ_any a3
  have q4 := smQ_any a4
  have hr := hk.ran
  refine ⟨?_, fun h h0 => ?_, fun q hq h => ?_⟩
  · have := q0.lo; have := q0.hi; have := q1.lo; have := q1.hi; have := q3.lo; have := q3.hi; have := q4.lo; have := q4.hi
    unfold Pc.in8 i8
    simp only
    omega
  · simp only [Bool.and_eq_true] at h
    have e := spl_back hw
    rw [q0.yes h.1.1.1, q1.yes h.1.1.2, hk.yes h0, q3.yes h.1.2, q4.yes h.2] at e
    exact e
  · have e := pcL_words q
    rw [← h, hw] at e
    simp only [pcWs, List.cons.injEq, and_true] at e
    obtain ⟨e0, e1, e2, e3, e4⟩ := e
    unfold pcIn at hq
    obtain ⟨c0, d0⟩ := q0.of _ (by omega) (by omega) e0
    obtain ⟨c1, d1⟩ := q1.of _ (by omega) (by omega) e1
    obtain ⟨c3, d3⟩ := q3.of _ (by omega) (by omega) e3
    obtain ⟨c4, d4⟩ := q4.of _ (by omega) (by omega) e4
    have d2 := hk.of kind_inj (j := q.kind.toNat) (by omega) (by rw [e2]; congr 1; omega)
    refine ⟨by rw [c0, c1, c3, c4]; rfl, ?_⟩
    obtain ⟨b0, b1, b2, b3, b4⟩ := q
    simp only at d0 d1 d2 d3 d4 hq
    simp only [Pc.mk.injEq]
    omega
end Go.Proofs.YtobhppkcgioheaaDoor
