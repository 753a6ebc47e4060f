/- Several texts in one: Tm, Tb, Td, Hz0. -/
import Derived.Test.YthohngkdfhpieaaGreatDoorG17
import Derived.Test.YthohngkdfhpieaaGreatDoorG11
import Derived.Test.YthohngkdfhpieaaGreatDoorIl
/- Rows of machines: their pushes are valid, how their outputs fall (mathematics). -/
namespace Go.Proofs.YthohngkdfhpieaaGreatDoor
open Go.ChangeShapes Go.WideShapes Go.ChangeAt Go.RowKit
set_option linter.unusedVariables false
set_option linter.unusedSimpArgs false

theorem find_some {x y : Int} : ∀ {l : List Pc} {j : Int}, 0 ≤ findFrom x y l j → ∃ q ∈ l, q.x = x ∧ q.y = y
  | [], _, h => by simp [findFrom] at h
  | p :: l, j, h => by
    unfold findFrom at h
    split at h
    · rename_i e; exact ⟨p, List.mem_cons_self .., e⟩
    · obtain ⟨q, hq, e⟩ := find_some h
      exact ⟨q, List.mem_cons_of_mem _ hq, e⟩
theorem insOk_told {lb : List Pc} : ∀ {l seen : List Po}, insOk lb seen l = true → ∀ q ∈ l, q.told lb = true
  | p :: l, seen, h, q, hq => by
    unfold insOk at h
    simp only [Bool.and_eq_true] at h
    rcases List.mem_cons.1 hq with rfl | hq
    · exact h.1.1
    · exact insOk_told h.2 q hq
theorem outsOk_found {lb : List Pc} : ∀ {l : List Cl}, outsOk lb l = true → ∀ q ∈ l, 0 ≤ findFrom q.x q.y lb 0
  | p :: l, h, q, hq => by
    unfold outsOk at h
    simp only [Bool.and_eq_true, decide_eq_true_eq] at h
    rcases List.mem_cons.1 hq with rfl | hq
    · exact h.1
    · exact outsOk_found h.2 q hq
theorem machOk_parts {wd hi : Int} {l : List Pc} {p : List Po} {c : List Cl} (h : machOk wd hi l p c = true) : boardOk wd hi l = true ∧ (l.length ≤ 60 ∧ (1 ≤ p.length ∧ p.length ≤ 6) ∧ 1 ≤ c.length ∧ c.length ≤ 8) ∧ insOk l [] p = true ∧ outsOk l c = true := by
  unfold machOk countsOk at h
  simp only [Bool.and_eq_true, decide_eq_true_eq] at h
  exact ⟨h.1.1.1, ⟨h.1.1.2.1.1, h.1.1.2.1.2, h.1.1.2.2⟩, h.1.2, h.2⟩
theorem pushFrom_ok {wd hi row : Int} {lb : List Pc} (hb : boardOk wd hi lb = true) : ∀ (p : List Po) (t : List Int) (i : Nat), (∀ q ∈ p, q.told lb = true) → lateAll t = true → plains (pushFrom row p t i) = true ∧ founds lb (pushFrom row p t i) = true
  | [], _, _, _, _ => by simp [pushFrom, plains, founds]
  | _ :: _, [], _, _, _ => by simp [pushFrom, plains, founds]
  | p :: l, x :: t, i, hp, ht => by
    have hx : 0 ≤ x ∧ x ≤ 100 := by simp [lateAll] at ht; exact ht.1
    have ht2 : lateAll t = true := by unfold lateAll at ht ⊢; simp only [List.all_cons, Bool.and_eq_true] at ht; exact ht.2
    have ih := pushFrom_ok (row := row) hb l t (i + 1) (fun q hq => hp q (List.mem_cons_of_mem _ hq)) ht2
    have h1 := hp p (List.mem_cons_self ..)
    unfold Po.told at h1
    simp only [Bool.and_eq_true, decide_eq_true_eq] at h1
    obtain ⟨q, hq, e1, e2⟩ := find_some h1.2
    have ho := Pc.ok_at (boardOk_ok hb _ hq)
    unfold pushFrom
    split
    · simp only [List.singleton_append, plains, founds, Bool.and_eq_true, decide_eq_true_eq]
      refine ⟨⟨?_, ih.1⟩, h1.2, ih.2⟩
      unfold Pu.plain
      rw [decide_eq_true_eq]
      simp only
      omega
    · simpa using ih
theorem machRow_ok {wd hi row : Int} {l : List Pc} {p : List Po} {c : List Cl} {t : List Int} (hM : machOk wd hi l p c = true) (ht : lateAll t = true) : true = (boardOk wd hi l && pushesOk l (pushFrom row p t 0)) := by
  obtain ⟨hb, hc, hi', ho⟩ := machOk_parts hM
  have h := pushFrom_ok (row := row) hb p t 0 (insOk_told hi') ht
  have hl := pushFrom_len row p t 0
  rw [hb]
  unfold pushesOk
  rw [h.1, h.2, decide_eq_true (by omega)]
  rfl
theorem runs_tick2 {wd hi : Int} {lb : List Pc} {l : List Pu} {lr : List Fl} (hR : true = (boardOk wd hi lb && pushesOk lb l)) (h : RunsTo true lb l lr) : ∀ f ∈ lr, f.tick = -1 ∨ (0 ≤ f.tick ∧ f.tick ≤ 2800) := by
  intro f hf
  have hb : boardOk wd hi lb = true ∧ pushesOk lb l = true := by simpa using hR.symm
  obtain ⟨H, hH, hF⟩ := RunI.ends (m := lb.length) rfl (boardOk_len hb.1) (allOk hb.1) (pushesOk_plain hb.2) _ _ _ rfl (RunI.start rfl (pushesOk_plain hb.2) (pushesOk_len hb.2))
  obtain ⟨h1, h2⟩ := h.2 rfl
  obtain ⟨k, hk, rfl⟩ := List.mem_iff_getElem.1 hf
  have hk' : k < lb.length := by omega
  have e := sol_unique (gameL_ok (allOk hb.1) (pushesOk_plain hb.2)) hH h2 k hk'
  have e2 : lr.getD k stay = lr[k] := by rw [List.getD_eq_getElem?_getD, List.getElem?_eq_getElem hk]; rfl
  have e3 : H k = lr[k] := e.trans e2
  by_cases h0 : (H k).tick < 0
  · have hs := ((hH k hk').1 h0).1
    rw [← e3, hs]
    exact .inl rfl
  · have := hF k hk' (by omega)
    rw [← e3]; unfold Fl.fine at this; omega
/-- the tick at which the piece in a cell falls -/
def tickAt (lb : List Pc) (lr : List Fl) (x : Cl) : Int := (lr.getD (findFrom x.x x.y lb 0).toNat stay).tick
def ticksL (lb : List Pc) (lr : List Fl) (c : List Cl) : List Int := c.map (tickAt lb lr)
theorem ticksL_length (lb : List Pc) (lr : List Fl) (c : List Cl) : (ticksL lb lr c).length = c.length := by simp [ticksL]
theorem ticksL_get (lb : List Pc) (lr : List Fl) (c : List Cl) (i : Nat) (h : i < (ticksL lb lr c).length) (h' : i < c.length) : (ticksL lb lr c)[i] = tickAt lb lr c[i] := by simp [ticksL]
/-- one row of a machine: how all pieces fall -/
structure RowRun (wd hi row : Int) (l : List Pc) (p : List Po) (c : List Cl) (t : List Int) (lr : List Fl) : Prop where
  ok : true = (boardOk wd hi l && pushesOk l (pushFrom row p t 0))
  runs : RunsTo true l (pushFrom row p t 0) lr
  len : lr.length = l.length
  ticks : ∀ f ∈ lr, f.tick = -1 ∨ (0 ≤ f.tick ∧ f.tick ≤ 2800)
  wf : FlsWf lr
  found : ∀ q ∈ c, 0 ≤ findFrom q.x q.y l 0 ∧ findFrom q.x q.y l 0 < l.length
theorem row_exists {wd hi : Int} {l : List Pc} {p : List Po} {c : List Cl} {t : List Int} (row : Int) (hM : machOk wd hi l p c = true) (ht : lateAll t = true) : ∃ lr, RowRun wd hi row l p c t lr := by
  have hok := machRow_ok (row := row) hM ht
  obtain ⟨lr, h1, h2, h3, _⟩ := runs_exist hok
  refine ⟨lr, hok, h1, (h1.2 rfl).1, runs_tick2 hok h1, h2, fun q hq => ?_⟩
  have h := outsOk_found (machOk_parts hM).2.2.2 q hq
  rcases findFrom_lt q.x q.y l 0 with h' | h'
  · exact ⟨h, by omega⟩
  · omega
theorem RowRun.tick_range {wd hi row : Int} {l : List Pc} {p : List Po} {c : List Cl} {t : List Int} {lr : List Fl} (h : RowRun wd hi row l p c t lr) {q : Cl} (hq : q ∈ c) : tickAt l lr q = -1 ∨ (0 ≤ tickAt l lr q ∧ tickAt l lr q ≤ 2800) := by
  have hf := h.found q hq
  have hk : (findFrom q.x q.y l 0).toNat < lr.length := by have := h.len; omega
  have e : lr.getD (findFrom q.x q.y l 0).toNat stay = lr[(findFrom q.x q.y l 0).toNat] := by rw [List.getD_eq_getElem?_getD, List.getElem?_eq_getElem hk]; rfl
  unfold tickAt
  rw [e]
  exact h.ticks _ (List.getElem_mem hk)
theorem RowRun.ticks_wf {wd hi row : Int} {l : List Pc} {p : List Po} {c : List Cl} {t : List Int} {lr : List Fl} (h : RowRun wd hi row l p c t lr) : ∀ x ∈ ticksL l lr c, x = -1 ∨ (0 ≤ x ∧ x ≤ 2800) := by
  intro x hx
  obtain ⟨q, hq, rfl⟩ := List.mem_map.1 hx
  exact h.tick_range hq
/-- what a device reads -/
structure DvAt (w : World) (B b k q : Nat) (l : List Pc) (p : List Po) (c : List Cl) : Prop where
  mp : MapAt w B l
  p0 : PcsAt w b 0 l
  p1 : PosAt w k 0 p
  p2 : ClsAt w q 0 c
  z0 : b < w.heap.size
  z1 : k < w.heap.size
  z2 : q < w.heap.size
  st : StayAt w
theorem DvAt.below {w w' : World} {B b k q : Nat} {l : List Pc} {p : List Po} {c : List Cl} (h : DvAt w B b k q l p c) (g : Below w.heap.size w w') : DvAt w' B b k q l p c :=
  ⟨h.mp.below g, h.p0.below g h.z0, h.p1.below g h.z1, h.p2.below g h.z2, Nat.lt_of_lt_of_le h.z0 g.size, Nat.lt_of_lt_of_le h.z1 g.size, Nat.lt_of_lt_of_le h.z2 g.size, h.st.below g⟩
/-- a row of pushes as its reader wants it -/
theorem owns_pushes {w : World} {base b0 : Nat} {e : TypeId} {ua : Option Addr} {uc : Nat} {L : List Pu} (h : w.ownsRow base e 4 (.slice ua L.length uc) L.length (flatPu L)) (hb : b0 < w.heap.size) : ∃ pb, PusAt w pb 0 L ∧ pb < w.heap.size ∧ (L.length = 0 ∨ ua = some ⟨pb, 0, none⟩) := by
  have h1 := SlWPu.of_owns h
  rcases h.2 with ⟨h2, h3⟩ | ⟨g, cap, cur, h2, _, h4, _⟩
  · exact ⟨b0, fun i hi => by omega, hb, .inl h3⟩
  · have hg : g < w.heap.size := (Array.getElem?_eq_some_iff.1 h4).1
    cases h2
    generalize hv : Value.slice (some ⟨g, 0, none⟩) L.length uc = v at h1
    cases h1 with
    | empty a c h => exact ⟨g, fun i hi => by rw [h] at hi; simp at hi, hg, .inr rfl⟩
    | mk b o c hc _ _ _ _ _ => cases hv; exact ⟨_, hc, hg, .inr rfl⟩
end Go.Proofs.YthohngkdfhpieaaGreatDoor

/- Outputs as a number. -/
namespace Go.Proofs.YthohngkdfhpieaaGreatDoor
open Go.ChangeShapes Go.WideShapes Go.ChangeAt Go.RowKit Go.Joins Go.Deep
set_option linter.unusedVariables false

/-- a one in the place j -/
def shl1 (j : Nat) : Int := 2 ^ j
/-- the number with a one for each tick that is none of -1, from the place j on -/
def outsB : List Int → Nat → Int → Int
  | [], _, a => a
  | x :: l, j, a => if x = -1 then outsB l (j + 1) a else outsB l (j + 1) (Go.bits .or .i64 a (shl1 j))
theorem outsB_yes {x : Int} {l : List Int} {j : Nat} {a : Int} (h : x = -1) : outsB (x :: l) j a = outsB l (j + 1) a := by rw [outsB, if_pos h]
theorem outsB_no {x : Int} {l : List Int} {j : Nat} {a : Int} (h : ¬ x = -1) : outsB (x :: l) j a = outsB l (j + 1) (Go.bits .or .i64 a (shl1 j)) := by rw [outsB, if_neg h]
theorem shl1_lt {j : Nat} (h : j ≤ 8) : wrap64 (2 ^ j) = 2 ^ j := by
  have : j = 0 ∨ j = 1 ∨ j = 2 ∨ j = 3 ∨ j = 4 ∨ j = 5 ∨ j = 6 ∨ j = 7 ∨ j = 8 := by omega
  rcases this with rfl | rfl | rfl | rfl | rfl | rfl | rfl | rfl | rfl <;> first | exact IntWalk.i64_in _ (by omega) | exact IntWalk.i64_in _ (by decide) | decide +kernel
end Go.Proofs.YthohngkdfhpieaaGreatDoor

/- What TicksIn and its like answer: lists and codes. -/
namespace Go.Proofs.YthohngkdfhpieaaGreatDoor
open Go.ChangeShapes Go.WideShapes Go.ChangeAt Go.RowKit Go.Joins Go.Deep
set_option linter.unusedVariables false
set_option linter.unusedSimpArgs false

end Go.Proofs.YthohngkdfhpieaaGreatDoor

/- No input is late, or one is: the lists, the closures. -/
namespace Go.Proofs.YthohngkdfhpieaaGreatDoor
open Go.ChangeShapes Go.WideShapes Go.ChangeAt Go.RowKit Go.Joins Go.Deep
set_option linter.unusedVariables false
set_option linter.unusedSimpArgs false
/-! ### no input is late, or one is -/
def zeros (n : Nat) : List Int := List.replicate n 0
theorem zeros_length (n : Nat) : (zeros n).length = n := by simp [zeros]
theorem zeros_get {n j : Nat} (h : j < (zeros n).length) : (zeros n)[j] = 0 := by simp [zeros]
theorem zeros_late (n : Nat) : lateAll (zeros n) = true := by simp [lateAll, zeros]
theorem zeros_made {w : World} {n B : Nat} {e : TypeId} (h : w.ownsRow B e 1 (.slice (some ⟨B, 0, none⟩) n n) n (madeCells #[Value.int .i64 0] n).toList) : InsAt w B 0 (zeros n) ∧ B < w.heap.size ∧ (∀ j, w.frozen? ⟨B, j, none⟩ = false) := by
  refine ⟨fun j hj => ?_, (h.lt B rfl).2, fun j => h.frozenAt j⟩
  rw [zeros_length] at hj
  rw [zeros_get, Nat.zero_add, h.cellAt j (by omega), toList_madeCells_one]
  simp [hj]
theorem noneLate_any (j : Nat) (w : World) : Calls Tryz.prog 41 #[.int .i64 j] w fun e w' => e = .returned (.int .i64 0) ∧ w = w' := by
  go_enter Tryz.func41, Tryz.ntmps41
  go_wp2
  go_ret
  exact ⟨rfl, rfl⟩
theorem noneTold {n : Nat} (w : World) : ∀ W, Below w.heap.size w W → ∀ (j : Nat) (hj : j < (zeros n).length), Calls Tryz.prog 41 #[.int .i64 j] W fun e w' => e = .returned (.int .i64 (zeros n)[j]) ∧ W = w' := by
  intro W _ j hj
  rw [zeros_get]
  exact noneLate_any j W
end Go.Proofs.YthohngkdfhpieaaGreatDoor
