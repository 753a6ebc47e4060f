/- MergeOf, both sides. -/
import Derived.Test.YtdnjamlibnmpfaaMg3
import Derived.Test.YtdnjamlibnmpfaaSi
namespace Go.Proofs.Ytdnjamlibnmpfaa
open Go.ChangeShapes Go.WideShapes Go.ChangeAt Go.RowKit Go.Joins Go.Deep
set_option linter.unusedVariables false
set_option linter.unusedSimpArgs false
theorem results_cell_tmp2M {P : Program} {fn : Func} {p q r : Tmp} {ty : TypeId} (h : fn.results = #[.cell p ty, .tmp q, .tmp r]) (tmps : Array Value) (w : World) (g : Nat) (t : TypeId) (cs : Array Value) (fr : Nat × Nat) (d : TypeDesc) (v u : Value)
    (hp : tmps.getD p undef = .pointer (some ⟨g, 0, none⟩)) (hq : tmps.getD q undef = v) (hr : tmps.getD r undef = u) (hg : w.heap[g]? = some (.cells cs t fr))
    (hu : P.underlying ty = some d) (hd : (match d with | .struct _ | .array _ _ => true | _ => false) = true) (hi : (P.info? ty).map (·.size) = some cs.size) :
    (results fn tmps).run P w = .ok (.tuple #[.agg cs, v, u]) w := by
  have hp' : tmps[p]?.getD undef = .pointer (some ⟨g, 0, none⟩) := by simpa using hp
  have hq' : tmps[q]?.getD undef = v := by simpa using hq
  have hr' : tmps[r]?.getD undef = u := by simpa using hr
  simp [results, h, hp', hq', hr', asAddr, run_loadVar_row w g t ty cs fr d hg hu hd hi]
theorem quint_M {a a' : Int} {l l' : List Nd} {p p' q q' : List Int} {c c' : Int} (h : (a, l, p, q, c) = (a', l', p', q', c')) : a = a' ∧ l = l' ∧ p = p' ∧ q = q' ∧ c = c' := by injection h with h1 h; injection h with h2 h; injection h with h3 h; injection h with h4 h5; exact ⟨h1, h2, h3, h4, h5⟩
/-- a network's slices within a window, in any order -/
structure NwO (lo hi : Nat) (w : World) (l : List Nd) (p : List Int) (v u : Value) : Prop where
  nd : SlWNd lo hi w l v
  sh : SlWSh lo hi w p u
theorem NwO.below {lo hi : Nat} {w w' : World} {l : List Nd} {p : List Int} {v u : Value} (h : NwO lo hi w l p v u) (g : Below w.heap.size w w') : NwO lo hi w' l p v u := ⟨h.nd.below g, h.sh.below g⟩
theorem NwO.out {lo hi lo2 hi2 : Nat} {w w' : World} {l : List Nd} {p : List Int} {v u : Value} (h : NwO lo hi w l p v u) (g : KeptOut lo2 hi2 w w') (ho : hi ≤ lo2 ∨ hi2 ≤ lo) : NwO lo hi w' l p v u := ⟨h.nd.out g ho, h.sh.out g ho⟩
theorem NwO.form {lo hi : Nat} {w : World} {l : List Nd} {p : List Int} {v u : Value} (h : NwO lo hi w l p v u) : ∃ va vc ua uc, v = .slice va l.length vc ∧ u = .slice ua p.length uc := by
  obtain ⟨va, vc, h1⟩ := h.nd.form
  obtain ⟨ua, uc, h2⟩ := h.sh.form
  exact ⟨va, vc, ua, uc, h1, h2⟩
theorem NwO.s1 {lo hi : Nat} {w : World} {l : List Nd} {p : List Int} {v u : Value} (h : NwO lo hi w l p v u) : SlNd w l v := h.nd.sl
theorem NwO.s2 {lo hi : Nat} {w : World} {l : List Nd} {p : List Int} {v u : Value} (h : NwO lo hi w l p v u) : SlSh w p u := h.sh.sl
structure LRow (w : World) (g n : Nat) (F : Nat → Int) : Prop where
  lt : g < w.heap.size
  at_ : ∀ k, k < n → w.cell? ⟨g, k, none⟩ = some (.int .i64 (F k))
  fz : ∀ j, w.frozen? ⟨g, j, none⟩ = false
theorem LRow.congr {w : World} {g n : Nat} {F G : Nat → Int} (h : LRow w g n F) (e : ∀ k, k < n → F k = G k) : LRow w g n G :=
  ⟨h.lt, fun k hk => by rw [← e k hk]; exact h.at_ k hk, h.fz⟩
theorem LRow.put2 {w : World} {g n k : Nat} {F G : Nat → Int} {x : Int} (h : LRow w g n F) (hk : k < n) (hx : G k = x) (e : ∀ i, i < n → i ≠ k → F i = G i) : LRow (w.setCell ⟨g, k, none⟩ (.int .i64 x)) g n G := by
  refine ⟨by simpa [World.setCell] using h.lt, fun i hi => ?_, fun i => by rw [World.frozen?_setCell]; exact h.fz i⟩
  by_cases ei : i = k
  · subst ei
    rw [hx]
    exact World.cell?_setCell_same _ _ _ (h.at_ i hi)
  · rw [World.cell?_setCell_other _ _ _ _ (by intro x; injection x with _ x2 _; exact ei x2.symm), h.at_ i hi, e i hi ei]
theorem lrow_made {w : World} {n B : Nat} {e : TypeId} (h : w.ownsRow B e 1 (.slice (some ⟨B, 0, none⟩) n n) n (madeCells #[Value.int .i64 0] n).toList) : LRow w B n (fun _ => 0) := by
  refine ⟨(h.lt B rfl).2, fun j hj => ?_, fun j => h.frozenAt j⟩
  have h2 := h.cellAt j (by omega)
  rw [toList_madeCells_one] at h2
  rw [h2]
  simp [hj]
theorem ifs_nextM {a : Int} {j s : Nat} (h : s ≠ j) : (if s < j then a else 0) = (if s < j + 1 then a else 0) := by
  by_cases h2 : s < j
  · rw [if_pos h2, if_pos (by omega)]
  · rw [if_neg h2, if_neg (by omega)]
theorem lrow_slw {w : World} {lo g N : Nat} {F : Nat → Int} {P : List Int} (h : LRow w g N F) (hN : P.length = N) (hF : ∀ s, s < N → F s = atP P s) (h1 : lo ≤ g) : SlWIn lo w.heap.size w P (.slice (some ⟨g, 0, none⟩) N N) := by
  subst hN
  exact .mk g 0 P.length (fun i hi => by rw [Nat.zero_add, h.at_ i hi, hF i hi]; unfold atP; rw [List.getD_eq_getElem?_getD, List.getElem?_eq_getElem hi]; rfl) h1 h.lt h.lt h.fz (Nat.le_refl _)
theorem nd_win {w : World} {base g : Nat} {e : TypeId} {v : Value} {n : Nat} {l : List Nd} (h : w.ownsRow base e 3 v n (flatNd l)) (hg : ∀ q, v.ownBlock = some q → q < g) : SlWNd base g w l v := by
  have hs := SlWNd.of_owns h
  cases hs with
  | empty a c h5 => exact .empty a c h5
  | mk b o c hc h1 h2 hb hf hl => exact .mk b o c hc h1 (hg b rfl) hb hf hl
theorem info_i64M : (Try.prog.info? 2).map (fun i => (i.zero, i.size, i.bytes)) = some (some (.int .i64 0), 1, 8) := by kernel_rfl
def MgPost (Nr : Int) (lr : List Nd) (pr ir : List Int) (C : Int) (w : World) (e : Ending) (w' : World) : Prop := ∃ v u y mid, e = .returned (.tuple #[.agg #[.int .i8 Nr, v, u], y, .int .i64 C]) ∧ NwR w.heap.size mid w' lr pr v u ∧ SlWIn mid w'.heap.size w' ir y ∧ w.heap.size ≤ mid ∧ mid ≤ w'.heap.size ∧ Below w.heap.size w w'
def MgPostS (Nr : Int) (lr : List Nd) (pr ir : List Int) (C : Int) (w : World) (e : Ending) (w' : World) : Prop := ∃ v u y, e = .returned (.tuple #[.agg #[.int .i8 Nr, v, u], y, .int .i64 C]) ∧ NwO w.heap.size w'.heap.size w' lr pr v u ∧ SlWIn w.heap.size w'.heap.size w' ir y ∧ Below w.heap.size w w'
def mgQ (R : Bool) (n : Nat) (l : List Nd) (p : List Int) : Int × List Nd × List Int × List Int × Int := if R = true then ((n : Int), (mgOf n l).M, pickP (atP (mgOf n l).P) p, (mgOf n l).P, 0) else (0, [], [], [], 1)
theorem merge_fine {l : List Nd} {p : List Int} {n : Nat} (hok : netOk n l p = true) : NdsWf (mgOf n l).M ∧ ShsWf (pickP (atP (mgOf n l).P) p) ∧ 1 ≤ (mgOf n l).P.length ∧ (mgOf n l).P.length ≤ 80 ∧ 1 ≤ (mgOf n l).M.length ∧ (mgOf n l).M.length ≤ 80 ∧ ∀ x ∈ (mgOf n l).P, 0 ≤ x ∧ x ≤ 32767 := by
  have h := merge_ok hok
  have hp := netOk_parts h
  have hp0 := netOk_parts hok
  have hi := merge_inv hok
  have hT : (tabsL n l []).length = l.length := by rw [tabsL_length]; simp
  refine ⟨fun x hx => ?_, fun x hx => ?_, by rw [hi.pl, hT]; omega, by rw [hi.pl, hT]; omega, by omega, by omega, fun x hx => ?_⟩
  · obtain ⟨i, hi, rfl⟩ := List.getElem_of_mem hx
    have hc := nodeOk_cases (netOk_node h i hi)
    have hm : IntKind.i8.min = -128 := rfl
    have hM : IntKind.i8.max = 127 := rfl
    exact ⟨by have := hc; simp [Lit.wf, hm, hM]; omega, wf_i16 (by omega), wf_i16 (by omega)⟩
  · have := outsOkN_all hp.2.2.2.2 x hx
    exact wf_i16 (by omega)
  · obtain ⟨i, hil, rfl⟩ := List.getElem_of_mem hx
    obtain ⟨k, hk1, hk2, -⟩ := hi.at_ i (by rw [← hi.pl]; exact hil)
    have h1 := hi.le
    rw [List.getD_eq_getElem?_getD, List.getElem?_eq_getElem hil] at hk2
    simp only [Option.getD_some] at hk2
    rw [hk2]
    omega
theorem mgQ_fine {R : Bool} {ni : Int} {l : List Nd} {p : List Int} {Nr : Int} {lr : List Nd} {pr ir : List Int} {C : Int} (hR : R = true → netOk ni l p = true) (hQ : mgQ R ni.toNat l p = (Nr, lr, pr, ir, C)) : NdsWf lr ∧ ShsWf pr ∧ lr.length ≤ 1048576 ∧ pr.length ≤ 1048576 ∧ InsWf ir ∧ ir.length ≤ 1048576 := by
  cases R with
  | false =>
    obtain ⟨-, rfl, rfl, rfl, -⟩ := quint_M (show ((0 : Int), ([] : List Nd), ([] : List Int), ([] : List Int), (1 : Int)) = (Nr, lr, pr, ir, C) from hQ)
    exact ⟨fun x hx => by simp at hx, fun x hx => by simp at hx, by simp, by simp, fun x hx => by simp at hx, by simp⟩
  | true =>
    have hok := hR rfl
    have hnp := netOk_parts hok
    obtain ⟨n, rfl⟩ : ∃ n : Nat, ni = n := ⟨ni.toNat, by omega⟩
    rw [Int.toNat_natCast] at hQ
    obtain ⟨-, rfl, rfl, rfl, -⟩ := quint_M (show ((n : Int), (mgOf n l).M, pickP (atP (mgOf n l).P) p, (mgOf n l).P, (0 : Int)) = (Nr, lr, pr, ir, C) from hQ)
    obtain ⟨h1, h2, h3, h4, h5, h6, h7⟩ := merge_fine hok
    refine ⟨h1, h2, by omega, by rw [pickP_length]; omega, fun x hx => ?_, by omega⟩
    have hx := h7 x hx
    have hm : IntKind.i64.min = -9223372036854775808 := rfl
    have hM : IntKind.i64.max = 9223372036854775807 := rfl
    simp [Lit.wf, hm, hM]
    omega
end Go.Proofs.Ytdnjamlibnmpfaa
