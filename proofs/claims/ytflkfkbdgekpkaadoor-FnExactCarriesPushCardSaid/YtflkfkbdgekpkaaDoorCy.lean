/- CarriesPush: both sides. -/
import Derived.Test.YtflkfkbdgekpkaaDoorG11
import Derived.Test.YtflkfkbdgekpkaaDoorGr
import Derived.Test.YtflkfkbdgekpkaaDoorG4
import Derived.Deep.DeepCutAuto
import Derived.OrdersHeld
namespace Go.Proofs.YtflkfkbdgekpkaaDoor
open Go.ChangeShapes Go.WideShapes Go.ChangeAt Go.RowKit Go.Joins Go.Deep
set_option linter.unusedVariables false
set_option linter.unusedSimpArgs false

theorem wpOp_monoC {P : Program} {ops : Array Oper} {Q : Exit → Act → World → Prop} {md : Region.Mode} {S T : World → Prop} (hST : ∀ W, T W → S W) : ∀ (fuel : Nat) (listed : Array Bool) (a : Act) (w : World), wpAnyH P md ops Q T fuel listed a w → wpAnyH P md ops Q S fuel listed a w
  | 0, _, _, _, h => h
  | fuel + 1, _, _, _, h => ⟨h.1, fun i hi => wpOp_mono (fun a' w' h' => ⟨hST _ h'.1, wpOp_monoC hST fuel _ a' w' h'.2⟩) (h.2 i hi)⟩
def onlyXc (Q : Exit → Act → World → Prop) : Exit → Act → World → Prop := fun e a w => e = .normal ∧ Q e a w
theorem regionW_of_HC {id : Nat} {P : Program} {ops : Array Oper} {Q : Exit → Act → World → Prop} {a : Act} {w : World} (S : World → Prop) (hm : P.follows .mixedOrders = true)
    (hS : S w.drew) (h : S w.drew → wpAnyH P .any ops (onlyXc Q) S ops.size (Array.replicate ops.size false) a w.drew) : (Code.region id ops true).wp P Q a w :=
  Code.wp_mono (fun _ _ _ h => h.2) (wp_region_held hm (h hS))
theorem wr64c {n : Int} (h : -9223372036854775808 ≤ n ∧ n ≤ 9223372036854775807) : wrap64 n = n := by unfold wrap64; omega
def cpP (p : Wy) : Pu := ⟨p.fx, p.fy, p.sd, 0⟩
def cpC (R : Bool) (lb : List Pc) (p : Wy) : Bool := R && (decide (0 ≤ findFrom p.fx p.fy lb 0) && (decide (0 ≤ findFrom p.tx p.ty lb 0) && (decide (0 ≤ p.sd ∧ p.sd ≤ 3) && decide (0 ≤ p.ot ∧ p.ot ≤ 3))))
def cpB (q : Pc) (f : Fl) (ot : Int) : Int × Int := if 0 ≤ f.tick ∧ rxH q.kind q.turn f.frm ot = true then (f.tick + q.delay, 0) else (0, 6)
def cpQ (R : Bool) (lb : List Pc) (p : Wy) (lr : List Fl) : Int × Int :=
  if R = false then (0, 1) else if cpC R lb p = false then (0, 2) else cpB (lb.getD (findFrom p.tx p.ty lb 0).toNat pc0) (lr.getD (findFrom p.tx p.ty lb 0).toNat stay) p.ot
theorem cp_parts {R : Bool} {lb : List Pc} {p : Wy} (h : cpC R lb p = true) : R = true ∧ 0 ≤ findFrom p.fx p.fy lb 0 ∧ 0 ≤ findFrom p.tx p.ty lb 0 ∧ (0 ≤ p.sd ∧ p.sd ≤ 3) ∧ (0 ≤ p.ot ∧ p.ot ≤ 3) := by
  unfold cpC at h
  simp only [Bool.and_eq_true, decide_eq_true_eq] at h
  exact h
theorem find_at {x y : Int} {l : List Pc} (h : 0 ≤ findFrom x y l 0) : ∃ i, ∃ h : i < l.length, findFrom x y l 0 = i ∧ l[i].x = x ∧ l[i].y = y := by
  have key : ∀ (l : List Pc) (j : Int), (findFrom x y l j = -1 ∧ ∀ p ∈ l, ¬ (p.x = x ∧ p.y = y)) ∨ ∃ i, ∃ h : i < l.length, findFrom x y l j = j + i ∧ l[i].x = x ∧ l[i].y = y := by
    intro l
    induction l with
    | nil => exact fun _ => .inl ⟨rfl, fun p h => absurd h (by simp)⟩
    | cons p l ih =>
      intro j
      unfold findFrom
      split
      · rename_i h
        exact .inr ⟨0, by simp, by simp, by simpa using h⟩
      · rename_i h
        rcases ih (j + 1) with ⟨h1, h2⟩ | ⟨i, hi, h1, h2⟩
        · refine .inl ⟨h1, fun q hq => ?_⟩
          rcases List.mem_cons.1 hq with rfl | hq
          · simpa using h
          · exact h2 q hq
        · exact .inr ⟨i + 1, by simpa using hi, by rw [h1]; omega, by simpa using h2⟩
  rcases key l 0 with ⟨h1, _⟩ | ⟨i, hi, h1, h2⟩
  · omega
  · exact ⟨i, hi, by omega, h2⟩
theorem cp_push {wd hi : Int} {lb : List Pc} {p : Wy} (hb : boardOk wd hi lb = true) (h : cpC (boardOk wd hi lb) lb p = true) : pushesOk lb [cpP p] = true := by
  obtain ⟨_, h1, _, h3, _⟩ := cp_parts h
  obtain ⟨i, hi, h4, h5, h6⟩ := find_at h1
  have ho := Pc.ok_at (boardOk_ok hb _ (List.getElem_mem hi))
  rw [h5, h6] at ho
  unfold pushesOk
  simp only [cpP, plains, founds, Bool.and_true, Bool.and_eq_true, List.length_singleton]
  exact ⟨⟨rfl, decide_eq_true (by simp only; omega)⟩, decide_eq_true h1⟩
structure CpR (R : Bool) (lb : List Pc) (p : Wy) (lr : List Fl) : Prop where
  run : RunsTo (cpC R lb p) lb [cpP p] lr
  fine : cpC R lb p = true → ∀ k, k < lb.length → 0 ≤ (lr.getD k stay).tick → (lr.getD k stay).tick ≤ 2800 ∧ 0 ≤ (lr.getD k stay).frm ∧ (lr.getD k stay).frm ≤ 3
  stay : cpC R lb p = true → ∀ k, k < lb.length → (lr.getD k stay).tick < 0 → lr.getD k stay = stay
theorem cp_runs {wd hi : Int} {lb : List Pc} {R : Bool} (p : Wy) (hR : R = boardOk wd hi lb) : ∃ lr, CpR R lb p lr := by
  by_cases h : cpC R lb p = true
  · have h0 := h
    have hb := (cp_parts h).1
    rw [hR] at h hb
    have hpok := cp_push hb h
    have hall : true = (boardOk wd hi lb && pushesOk lb [cpP p]) := by rw [hb, hpok]; rfl
    obtain ⟨lr, a, b, c, _⟩ := runs_exist (R := true) (wd := wd) (hi := hi) (lb := lb) (l := [cpP p]) hall
    obtain ⟨H, hH, hF⟩ := RunI.ends (m := lb.length) rfl (boardOk_len hb) (allOk hb) (pushesOk_plain hpok) _ _ _ rfl (RunI.start rfl (pushesOk_plain hpok) (pushesOk_len hpok))
    obtain ⟨h1, h2⟩ := a.2 rfl
    have e : ∀ k, k < lb.length → H k = lr.getD k Go.Proofs.YtflkfkbdgekpkaaDoor.stay := fun k hk => sol_unique (gameL_ok (allOk hb) (pushesOk_plain hpok)) hH h2 k hk
    refine ⟨lr, by rw [h0]; exact a, fun _ k hk h3 => ?_, fun _ k hk h3 => ((h2 k hk).1 h3).1⟩
    rw [← e k hk] at h3 ⊢
    have := hF k hk h3
    unfold Fl.fine at this
    omega
  · have h0 : cpC R lb p = false := by simpa using h
    exact ⟨[], by rw [h0]; exact ⟨fun _ => rfl, fun h => by cases h⟩, fun h2 => absurd h2 h, fun h2 => absurd h2 h⟩

theorem kTr {k : Nat} {a b c : World} (h : Below k a b) (g : Below b.heap.size b c) (hk : k ≤ b.heap.size) : Below k a c := h.trans (g.mono hk)
/-- what lies at the walk's three boxes -/
structure CpS (w : World) (X : Nat) (b m cap B : Nat) (wd hi : Int) (p : Wy) (L : Nat) (W : World) : Prop where
  bd : W.heap[X]? = some (.cells #[.int .i8 wd, .int .i8 hi, .slice (some ⟨b, 0, none⟩) m cap] 34 (0, 0))
  wy : W.heap[X + 1]? = some (.cells #[.int .i8 p.fx, .int .i8 p.fy, .int .i8 p.sd, .int .i8 p.tx, .int .i8 p.ty, .int .i8 p.ot] 38 (0, 0))
  lo : W.heap[L]? = some (.cells #[.int .i8 wd, .int .i8 hi, .map (some B)] 82 (0, 0))
theorem CpS.below {w : World} {X b m cap B : Nat} {wd hi : Int} {p : Wy} {L : Nat} {W W' : World} (h : CpS w X b m cap B wd hi p L W) (g : Below W.heap.size W W') : CpS w X b m cap B wd hi p L W' := ⟨blk_below h.bd g, blk_below h.wy g, blk_below h.lo g⟩
theorem ixb0 (a b c d : Value) (w : World) : (Instr.index 92 (.agg #[a, b, c, d]) (.int .i8 0)).run Tryd.prog w = .ok a w := by kernel_rfl
theorem ixb1 (a b c d : Value) (w : World) : (Instr.index 92 (.agg #[a, b, c, d]) (.int .i8 1)).run Tryd.prog w = .ok b w := by kernel_rfl
theorem ixb2 (a b c d : Value) (w : World) : (Instr.index 92 (.agg #[a, b, c, d]) (.int .i8 2)).run Tryd.prog w = .ok c w := by kernel_rfl
theorem ixb3 (a b c d : Value) (w : World) : (Instr.index 92 (.agg #[a, b, c, d]) (.int .i8 3)).run Tryd.prog w = .ok d w := by kernel_rfl
theorem ixb (f : Int → Bool) (k : Nat) (hk : k < 4) (w : World) : (Instr.index 92 (.agg #[.bool (f 0), .bool (f 1), .bool (f 2), .bool (f 3)]) (.int .i8 k)).run Tryd.prog w = .ok (.bool (f k)) w := by
  have : k = 0 ∨ k = 1 ∨ k = 2 ∨ k = 3 := by omega
  rcases this with rfl | rfl | rfl | rfl
  · exact ixb0 _ _ _ _ w
  · exact ixb1 _ _ _ _ w
  · exact ixb2 _ _ _ _ w
  · exact ixb3 _ _ _ _ w
set_option maxRecDepth 100000 in
set_option maxHeartbeats 8000000 in
theorem implCarriesPush_any (b m cap : Nat) (wd hi : Int) (lb : List Pc) (p : Wy) (w : World) (hm : lb.length = m) (hq : PcsAt w b 0 lb) (hbb : b < w.heap.size) (hcap : m ≤ cap) (h8 : All8 lb) (hp8 : p.in8) (hmm : m ≤ 1048576)
    (R : Bool) (hR : R = boardOk wd hi lb) (hst : StayAt w) (lr : List Fl) (hlr : CpR R lb p lr) (T C : Int) (hQ : cpQ R lb p lr = (T, C)) :
    Calls Tryd.prog 11 #[.agg #[.int .i8 wd, .int .i8 hi, .slice (some ⟨b, 0, none⟩) m cap], .agg #[.int .i8 p.fx, .int .i8 p.fy, .int .i8 p.sd, .int .i8 p.tx, .int .i8 p.ty, .int .i8 p.ot]] w fun e w' => e = .returned (.tuple #[.int .i64 T, .int .i64 C]) ∧ Below w.heap.size w w' := by
  obtain ⟨W0, hW⟩ : ∃ W0, (w.alloc (.cells #[.int .i8 wd, .int .i8 hi, .slice (some ⟨b, 0, none⟩) m cap] 34)).alloc (.cells #[.int .i8 p.fx, .int .i8 p.fy, .int .i8 p.sd, .int .i8 p.tx, .int .i8 p.ty, .int .i8 p.ot] 38) = W0 := ⟨_, rfl⟩
  have k0 : Below w.heap.size w W0 := by rw [← hW]; exact kAlloc (kAlloc (Below.refl _ _) _) _
  have bX : W0.heap[w.heap.size]? = some (.cells #[.int .i8 wd, .int .i8 hi, .slice (some ⟨b, 0, none⟩) m cap] 34 (0, 0)) := by rw [← hW]; exact (Below.heap_alloc _ _ _ (by simp)).trans (heap_alloc_new _ _)
  have bY : W0.heap[w.heap.size + 1]? = some (.cells #[.int .i8 p.fx, .int .i8 p.fy, .int .i8 p.sd, .int .i8 p.tx, .int .i8 p.ty, .int .i8 p.ot] 38 (0, 0)) := by rw [← hW]; exact heap_two _ _ _
  have lX := blk_lt bX
  have lY := blk_lt bY
  obtain ⟨X, hX⟩ : ∃ X, w.heap.size = X := ⟨_, rfl⟩
  have hbX : b < X := by omega
  have HL := Lib.hid (layoutOf_any b 0 m cap wd hi lb W0 hm (hq.below k0 hbb) (Nat.lt_of_lt_of_le hbb k0.size) hcap h8 hmm R hR)
  have HPC := Lib.hid (fun W2 (h2 : Below X w W2) => (hq.below (by rw [hX]; exact h2) hbb : PcsAt W2 b 0 lb))
  have HSTA := Lib.hid (fun W2 (h2 : Below X w W2) => (hst.below (by rw [hX]; exact h2) : StayAt W2))
  have HK0 := Lib.hid (show Below X w W0 by rw [← hX]; exact k0)
  rw [hX] at bX bY lX lY
  have HX := Lib.hid hX
  have HW := Lib.hid hW
  have BX := Lib.hid bX
  have BY := Lib.hid bY
  have HQ := Lib.hid hQ
  have HLR := Lib.hid hlr
  have HM := Lib.hid hm
  have HR := Lib.hid hR
  have HP8 := Lib.hid hp8
  have H8 := Lib.hid h8
  have c0_ : W0.cell? ⟨X, 0, none⟩ = some (.int .i8 wd) := cell_of_row _ _ 0 _ _ _ bX
  have c1_ : W0.cell? ⟨X, 1, none⟩ = some (.int .i8 hi) := cell_of_row _ _ 1 _ _ _ bX
  have c2_ : W0.cell? ⟨X, 2, none⟩ = some (.slice (some ⟨b, 0, none⟩) m cap) := cell_of_row _ _ 2 _ _ _ bX
  clear hm hq hst hR hlr hQ hW bX bY k0 hp8 h8
  go_enter Tryd.func11, Tryd.ntmps11
  go_upto_region 1 with fail
  try rw [HW.out]
  try rw [HX.out]
  clear HW hX
  cases R with
  | false =>
    have hQ := HQ.out
    obtain ⟨rfl, rfl⟩ : (0 : Int) = T ∧ (1 : Int) = C := by unfold cpQ at hQ; rw [if_pos rfl] at hQ; exact ⟨congrArg Prod.fst hQ, congrArg Prod.snd hQ⟩
    clear hQ HQ HLR
    go_wp2_with fail
    refine HL.out.mono ?_
    rintro e w1 ⟨_, h1, hb1⟩
    obtain rfl := h1 rfl
    clear h1 HL
    go_wp2
    go_ret2
    exact ⟨rfl, by rw [HX.out]; exact kTr HK0.out (kAlloc hb1 _) (by omega)⟩
  | true =>
    go_wp2_with fail
    refine HL.out.mono ?_
    rintro e w1 ⟨h1, _, hb1⟩
    obtain ⟨B, rfl, hmp⟩ := h1 rfl
    clear h1 HL c0_ c1_ c2_
    obtain ⟨W1, hW1⟩ : ∃ W1, w1.alloc (.cells #[.int .i8 wd, .int .i8 hi, .map (some B)] 82) = W1 := ⟨_, rfl⟩
    have kA : Below w1.heap.size w1 W1 := by rw [← hW1]; exact kAlloc (Below.refl _ _) _
    have bL : W1.heap[w1.heap.size]? = some (.cells #[.int .i8 wd, .int .i8 hi, .map (some B)] 82 (0, 0)) := by rw [← hW1]; exact heap_alloc_new _ _
    have k01 : Below W0.heap.size W0 W1 := kTrans hb1 kA
    obtain ⟨L, hL⟩ : ∃ L, w1.heap.size = L := ⟨_, rfl⟩
    rw [hL] at bL
    have CS := Lib.hid (show CpS w X b m cap B wd hi p L W1 from ⟨blk_below BX.out k01, blk_below BY.out k01, bL⟩)
    have HMP := Lib.hid (fun W2 (h2 : Below W1.heap.size W1 W2) => ((hmp.below kA).below h2 : MapAt W2 B lb))
    have HK1 := Lib.hid (show Below X w W1 from kTr HK0.out k01 (by omega))
    have lX1 := blk_lt CS.out.bd
    have lY1 := blk_lt CS.out.wy
    have lL1 := blk_lt bL
    have HW1 := Lib.hid hW1
    have HL1 := Lib.hid hL
    clear hmp hb1 kA bL k01 hW1 hL HK0 BX BY lX lY
    go_upto_region 4 with fail
    try rw [HW1.out]
    try rw [HL1.out]
    clear HW1 HL1
    have e0 : W1.cell? ⟨X + 1, 3, none⟩ = some (.int .i8 p.tx) := cell_of_row _ _ 3 _ _ _ CS.out.wy
    have e1 : W1.cell? ⟨X + 1, 4, none⟩ = some (.int .i8 p.ty) := cell_of_row _ _ 4 _ _ _ CS.out.wy
    have e2 : W1.cell? ⟨L, 0, none⟩ = some (.int .i8 wd) := cell_of_row _ _ 0 _ _ _ CS.out.lo
    have e3 : W1.cell? ⟨L, 1, none⟩ = some (.int .i8 hi) := cell_of_row _ _ 1 _ _ _ CS.out.lo
    have e4 : W1.cell? ⟨L, 2, none⟩ = some (.map (some B)) := cell_of_row _ _ 2 _ _ _ CS.out.lo
    go_wp2_with fail
    refine (indexAt_any wd hi p.tx p.ty B lb W1 (HMP.out _ (Below.refl _ _))).mono ?_
    rintro e w2 ⟨rfl, hb2⟩
    obtain ⟨ft, hft⟩ : ∃ ft, findFrom p.tx p.ty lb 0 = ft := ⟨_, rfl⟩
    rw [hft]
    have HFT := Lib.hid hft
    have CS2 := Lib.hid (CS.out.below hb2)
    have K12 := Lib.hid hb2
    clear hft hb2 e0 e1 e2 e3 e4
    have n2 := K12.out.size
    have lX2 := blk_lt CS2.out.bd
    have lY2 := blk_lt CS2.out.wy
    have lL2 := blk_lt CS2.out.lo
    have e0 : w2.cell? ⟨X + 1, 0, none⟩ = some (.int .i8 p.fx) := cell_of_row _ _ 0 _ _ _ CS2.out.wy
    have e1 : w2.cell? ⟨X + 1, 1, none⟩ = some (.int .i8 p.fy) := cell_of_row _ _ 1 _ _ _ CS2.out.wy
    have e2 : w2.cell? ⟨L, 0, none⟩ = some (.int .i8 wd) := cell_of_row _ _ 0 _ _ _ CS2.out.lo
    have e3 : w2.cell? ⟨L, 1, none⟩ = some (.int .i8 hi) := cell_of_row _ _ 1 _ _ _ CS2.out.lo
    have e4 : w2.cell? ⟨L, 2, none⟩ = some (.map (some B)) := cell_of_row _ _ 2 _ _ _ CS2.out.lo
    go_wp2_with fail
    refine (indexAt_any wd hi p.fx p.fy B lb w2 (HMP.out _ K12.out)).mono ?_
    rintro e w3 ⟨rfl, hb3⟩
    obtain ⟨ff, hff⟩ : ∃ ff, findFrom p.fx p.fy lb 0 = ff := ⟨_, rfl⟩
    rw [hff]
    have HFF := Lib.hid hff
    have CS3 := Lib.hid (CS2.out.below hb3)
    have K13 := Lib.hid (kTrans K12.out hb3)
    clear hff hb3 e0 e1 e2 e3 e4 CS CS2
    have n3 := K13.out.size
    have lX3 := blk_lt CS3.out.bd
    have lY3 := blk_lt CS3.out.wy
    have lL3 := blk_lt CS3.out.lo
    have HCC := Lib.hid (show cpC true lb p = (decide (0 ≤ ff) && (decide (0 ≤ ft) && (decide (0 ≤ p.sd ∧ p.sd ≤ 3) && decide (0 ≤ p.ot ∧ p.ot ≤ 3)))) by unfold cpC; rw [HFF.out, HFT.out]; rfl)
    have bsd := HP8.out.2.2.1
    have bot := HP8.out.2.2.2.2.2
    unfold i8 at bsd bot
    have wsd : IntKind.i64.wrap p.sd = p.sd := IntWalk.i64_in _ (by omega)
    have wot : IntKind.i64.wrap p.ot = p.ot := IntWalk.i64_in _ (by omega)
    have HNO := Lib.hid (fun (h : cpC true lb p = false) => (show (0 : Int) = T ∧ (2 : Int) = C by
      have hQ := HQ.out; unfold cpQ at hQ; rw [if_neg (by decide), if_pos h] at hQ; exact ⟨congrArg Prod.fst hQ, congrArg Prod.snd hQ⟩))
    have HBK := Lib.hid (show Below X w w3 from kTr HK1.out K13.out (by omega))
    have e2 : w3.cell? ⟨X + 1, 2, none⟩ = some (.int .i8 p.sd) := cell_of_row _ _ 2 _ _ _ CS3.out.wy
    have e5 : w3.cell? ⟨X + 1, 5, none⟩ = some (.int .i8 p.ot) := cell_of_row _ _ 5 _ _ _ CS3.out.wy
    by_cases hf1 : ff < 0
    · obtain ⟨rfl, rfl⟩ := HNO.out (by rw [HCC.out, decide_eq_false (by omega : ¬ 0 ≤ ff)]; rfl)
      clear HQ HCC HNO
      go_wp2
      go_ret2
      exact ⟨rfl, by rw [HX.out]; exact HBK.out⟩
    by_cases hf2 : ft < 0
    · obtain ⟨rfl, rfl⟩ := HNO.out (by rw [HCC.out, decide_eq_false (by omega : ¬ 0 ≤ ft), Bool.and_comm]; simp)
      clear HQ HCC HNO
      go_wp2
      go_ret2
      exact ⟨rfl, by rw [HX.out]; exact HBK.out⟩
    obtain ⟨rs, hrs⟩ : ∃ r, r = decide (0 ≤ p.sd ∧ p.sd ≤ 3) := ⟨_, rfl⟩
    obtain ⟨ro, hro⟩ : ∃ r, r = decide (0 ≤ p.ot ∧ p.ot ≤ 3) := ⟨_, rfl⟩
    have HC2 := Lib.hid (show cpC true lb p = (rs && ro) by rw [HCC.out, decide_eq_true (by omega : 0 ≤ ff), decide_eq_true (by omega : 0 ≤ ft), hrs, hro]; rfl)
    have HRS := Lib.hid hrs
    have HRO := Lib.hid hro
    clear hrs hro HCC
    go_wp2_with fail
    refine (isSide_any p.sd w3 rs HRS.out).mono ?_
    rintro e w' ⟨rfl, h⟩
    obtain rfl : w3 = w' := h
    cases rs with
    | false =>
      obtain ⟨rfl, rfl⟩ := HNO.out HC2.out
      clear HQ HC2 HNO HRS HRO
      go_wp2
      go_ret2
      exact ⟨rfl, by rw [HX.out]; exact HBK.out⟩
    | true =>
      go_wp2_with fail
      refine (isSide_any p.ot w3 ro HRO.out).mono ?_
      rintro e w' ⟨rfl, h⟩
      obtain rfl : w3 = w' := h
      cases ro with
      | false =>
        obtain ⟨rfl, rfl⟩ := HNO.out HC2.out
        clear HQ HC2 HNO HRS HRO
        go_wp2
        go_ret2
        exact ⟨rfl, by rw [HX.out]; exact HBK.out⟩
      | true =>
        have ho3 := of_decide_eq_true HRO.out.symm
        obtain ⟨k, rfl⟩ : ∃ k : Nat, ft = k := ⟨ft.toNat, by omega⟩
        have hcc : cpC true lb p = true := HC2.out
        have hkl : k < lb.length := by
          obtain ⟨i, hi_, h4, _⟩ := find_at (x := p.tx) (y := p.ty) (l := lb) (by rw [HFT.out]; omega)
          rw [HFT.out] at h4
          omega
        have hkm : k < m := by rw [← HM.out]; exact hkl
        have hbok : boardOk wd hi lb = true := HR.out.symm
        have hpok := cp_push hbok (by rw [hbok]; exact hcc)
        have hrt : RunsTo true lb [cpP p] lr := by have h := HLR.out.run; rwa [hcc] at h
        have h200 := boardOk_len hbok
        have hlen := (hrt.2 rfl).1
        have hgo := gameL_ok (l := [cpP p]) (allOk hbok) (pushesOk_plain hpok)
        obtain ⟨q, hqe⟩ : ∃ q, lb[k] = q := ⟨_, rfl⟩
        obtain ⟨f, hfe⟩ : ∃ f, lr.getD k stay = f := ⟨_, rfl⟩
        have hq8 := H8.out _ (List.getElem_mem hkl)
        have hqi := of_decide_eq_true (boardOk_ok hbok _ (List.getElem_mem hkl))
        rw [hqe] at hq8 hqi
        have HPQ := Lib.hid (fun W2 (h2 : Below X w W2) => (show PcAt W2 b (k * 5) q by have h := HPC.out W2 h2 k hkl; rw [Nat.zero_add, hqe] at h; exact h))
        have HQ3 := Lib.hid (show cpB q f p.ot = (T, C) by
          have hQ := HQ.out
          unfold cpQ at hQ
          rw [if_neg (by decide), if_neg (by rw [hcc]; decide), HFT.out, Int.toNat_natCast, getD_pc hkl, hqe, hfe] at hQ
          exact hQ)
        have HRUN := Lib.hid (fun (W2 : World) (pb : Nat) (h2 : Below X w W2) (hmp2 : MapAt W2 B lb) (hpu : PusAt W2 pb 0 [cpP p]) (hpl : pb < W2.heap.size) =>
          ((run_any B b 0 m cap pb 1 1 (some ⟨pb, 0, none⟩) (.inr rfl) wd hi lb [cpP p] W2 HM.out (HPC.out W2 h2) (Nat.lt_of_lt_of_le hbX (by have := h2.size; have := HX.out; omega)) hcap hmp2 (allOk hbok) (by have := HM.out; omega) rfl hpu hpl (pushesOk_plain hpok) (by decide) (HSTA.out W2 h2)).mono
            (fun e w' h => by
              obtain ⟨g, F, h1, h2, h3, _, h4, h5⟩ := h
              refine (⟨g, F, h1, h2, ?_, h4, h5⟩ : ∃ g F, e = .returned (.slice (some ⟨g, 0, none⟩) m m) ∧ FRow w' g m F ∧ F k = f ∧ W2.heap.size ≤ g ∧ Below W2.heap.size W2 w')
              rw [← hfe]
              exact sol_unique hgo h3 (hrt.2 rfl).2 k hkl)))
        have hfs : f.tick < 0 → f = stay := fun h => by rw [← hfe] at h ⊢; exact HLR.out.stay hcc k hkl h
        have hff_ : 0 ≤ f.tick → f.tick ≤ 2800 ∧ 0 ≤ f.frm ∧ f.frm ≤ 3 := fun h => by rw [← hfe] at h ⊢; exact HLR.out.fine hcc k hkl h
        have d0 : w3.cell? ⟨L, 0, none⟩ = some (.int .i8 wd) := cell_of_row _ _ 0 _ _ _ CS3.out.lo
        have d1 : w3.cell? ⟨L, 1, none⟩ = some (.int .i8 hi) := cell_of_row _ _ 1 _ _ _ CS3.out.lo
        have d2 : w3.cell? ⟨L, 2, none⟩ = some (.map (some B)) := cell_of_row _ _ 2 _ _ _ CS3.out.lo
        have d3 : w3.cell? ⟨X, 2, none⟩ = some (.slice (some ⟨b, 0, none⟩) m cap) := cell_of_row _ _ 2 _ _ _ CS3.out.bd
        have d4 : w3.cell? ⟨X + 1, 0, none⟩ = some (.int .i8 p.fx) := cell_of_row _ _ 0 _ _ _ CS3.out.wy
        have d5 : w3.cell? ⟨X + 1, 1, none⟩ = some (.int .i8 p.fy) := cell_of_row _ _ 1 _ _ _ CS3.out.wy
        obtain ⟨PB, hPB⟩ : ∃ z, w3.heap.size = z := ⟨_, rfl⟩
        obtain ⟨W4, hW4⟩ : ∃ z, (w3.alloc (.cells #[.int .i8 p.fx, .int .i8 p.fy, .int .i8 p.sd, .int .i16 0] 88)).alloc (.cells #[.int .i8 wd, .int .i8 hi, .map (some B), .slice (some ⟨b, 0, none⟩) m cap, .slice (some ⟨PB, 0, none⟩) 1 1] 90) = z := ⟨_, rfl⟩
        have k34 : Below w3.heap.size w3 W4 := by rw [← hW4]; exact kAlloc (kAlloc (Below.refl _ _) _) _
        have bP : W4.heap[PB]? = some (.cells #[.int .i8 p.fx, .int .i8 p.fy, .int .i8 p.sd, .int .i16 0] 88 (0, 0)) := by rw [← hW4, ← hPB]; exact (Below.heap_alloc _ _ _ (by simp)).trans (heap_alloc_new _ _)
        have bG : W4.heap[PB + 1]? = some (.cells #[.int .i8 wd, .int .i8 hi, .map (some B), .slice (some ⟨b, 0, none⟩) m cap, .slice (some ⟨PB, 0, none⟩) 1 1] 90 (0, 0)) := by rw [← hW4, ← hPB]; exact heap_two _ _ _
        have n34 := k34.size
        have lG := blk_lt bG
        have lP := blk_lt bP
        have CS4 := Lib.hid (CS3.out.below k34)
        have HK4 := Lib.hid (show Below X w W4 from kTr HBK.out k34 (by omega))
        have HMP4 := Lib.hid (fun W2 (h2 : Below W4.heap.size W4 W2) => HMP.out W2 (kTrans (kTrans K13.out k34) h2))
        have HPU := Lib.hid (fun W2 (h2 : Below W4.heap.size W4 W2) => (show PusAt W2 PB 0 [cpP p] ∧ PB < W2.heap.size from ⟨by
          intro j hj
          obtain rfl : j = 0 := by simpa using hj
          have h3 := blk_below bP h2
          exact ⟨cell_of_row _ _ 0 _ _ _ h3, cell_of_row _ _ 1 _ _ _ h3, cell_of_row _ _ 2 _ _ _ h3, cell_of_row _ _ 3 _ _ _ h3⟩, Nat.lt_of_lt_of_le lP h2.size⟩))
        have HR4 := Lib.hid (fun W2 (h2 : Below W4.heap.size W4 W2) => HRUN.out W2 PB (kTr HK4.out h2 (by omega)) (HMP4.out W2 h2) (HPU.out W2 h2).1 (HPU.out W2 h2).2)
        have HPQ4 := Lib.hid (fun W2 (h2 : Below W4.heap.size W4 W2) => HPQ.out W2 (kTr HK4.out h2 (by omega)))
        have HG4 := Lib.hid (fun W2 (h2 : Below W4.heap.size W4 W2) => blk_below bG h2)
        have HD4 := Lib.hid (fun W2 (h2 : Below W4.heap.size W4 W2) => (show W2.cell? ⟨X, 2, none⟩ = some (.slice (some ⟨b, 0, none⟩) m cap) from cell_of_row _ _ 2 _ _ _ (blk_below CS4.out.bd h2)))
        have HW4 := Lib.hid hW4
        have HPB := Lib.hid hPB
        have Hfs := Lib.hid hfs
        have Hff := Lib.hid hff_
        have hmZ : (k : Int) < (m : Int) := by omega
        have lX4 := blk_lt CS4.out.bd
        have lY4 := blk_lt CS4.out.wy
        clear hW4 hPB k34 bP bG hfs hff_ hcc hkl hbok hpok hrt h200 hlen hgo hqe hfe HC2 HRS HRO HFT HFF HLR HR HQ HNO HRUN HMP K13 HPC
        go_upto_region 8 with fail
        try rw [HPB.out]
        try rw [HW4.out]
        clear HW4 HPB d0 d1 d2 d3 d4 d5 e2 e5
        go_cut [10, 11] (fun s10 s11 wx => ∃ g10 g11 : Nat, s10 = .pointer (some ⟨g10, 0, none⟩) ∧ s11 = .pointer (some ⟨g11, 0, none⟩) ∧ Hid (wx.heap[g10]? = some (.cells #[.int .i8 q.x, .int .i8 q.y, .int .i8 q.kind, .int .i8 q.turn, .int .i8 q.delay] 71 (0, 0))) ∧ Hid (wx.heap[g11]? = some (.cells #[.int .i64 f.tick, .int .i8 f.frm, .int .i64 f.who] 73 (0, 0))) ∧ Hid (Below W4.heap.size W4 wx))
        case first =>
          refine regionW_of_HC (fun W' => Below W4.heap.size W4 W') (by kernel_rfl) (Below.drew (Below.refl _ _)) (fun hHeld => ?_)
          refine wpAnyH_take (i := 0) (v := .pointer (some ⟨X, 2, none⟩)) rfl (by kernel_rfl) (by kernel_rfl) (by kernel_rfl) (fun _ _ _ h => absurd h.1 (by simp)) (Or.inl ⟨by rfl, fun w7 hSw => ?_⟩) (by assumption) ?_
          · clear hSw
            go_simp
          try simp only [Act.put, List.setIfInBounds_toArray, List.set_cons_zero, List.set_cons_succ]
          refine wpAnyH_take (i := 1) (v := .slice (some ⟨b, 0, none⟩) m cap) rfl (by kernel_rfl) (by kernel_rfl) (by kernel_rfl) (fun _ _ _ h => absurd h.1 (by simp)) (Or.inl ⟨by rfl, fun w7 hSw => ?_⟩) (by assumption) ?_
          · have q7 := HD4.out _ hSw
            clear hSw
            go_simp
          try simp only [Act.put, List.setIfInBounds_toArray, List.set_cons_zero, List.set_cons_succ]
          refine wpAnyH_take (i := 2) (v := .int .i64 (k : Int)) rfl (by kernel_rfl) (by kernel_rfl) (by kernel_rfl) (fun _ _ _ h => absurd h.1 (by simp)) (Or.inl ⟨by rfl, fun w7 hSw => ?_⟩) (by assumption) ?_
          · clear hSw
            go_simp
          try simp only [Act.put, List.setIfInBounds_toArray, List.set_cons_zero, List.set_cons_succ]
          refine wpAnyH_take (i := 3) (v := .pointer (some ⟨b, k * 5, none⟩)) rfl (by kernel_rfl) (by kernel_rfl) (by kernel_rfl) (fun _ _ _ h => absurd h.1 (by simp)) (Or.inl ⟨by rfl, fun w7 hSw => ?_⟩) (by assumption) ?_
          · clear hSw
            go_simp
          try simp only [Act.put, List.setIfInBounds_toArray, List.set_cons_zero, List.set_cons_succ]
          refine wpAnyH_take (i := 4) (v := .agg #[.int .i8 q.x, .int .i8 q.y, .int .i8 q.kind, .int .i8 q.turn, .int .i8 q.delay]) rfl (by kernel_rfl) (by kernel_rfl) (by kernel_rfl) (fun _ _ _ h => absurd h.1 (by simp)) (Or.inl ⟨by rfl, fun w7 hSw => ?_⟩) (by assumption) ?_
          · obtain ⟨q0, q1, q2, q3, q4⟩ := HPQ4.out _ hSw
            clear hSw
            go_simp
          try simp only [Act.put, List.setIfInBounds_toArray, List.set_cons_zero, List.set_cons_succ]
          refine wpAnyH_take (i := 7) (v := .int .i64 (k : Int)) rfl (by kernel_rfl) (by kernel_rfl) (by kernel_rfl) (fun _ _ _ h => absurd h.1 (by simp)) (Or.inl ⟨by rfl, fun w7 hSw => ?_⟩) (by assumption) ?_
          · clear hSw
            go_simp
          try simp only [Act.put, List.setIfInBounds_toArray, List.set_cons_zero, List.set_cons_succ]
          refine wpAnyH_take (i := 5) (v := .agg #[.int .i8 wd, .int .i8 hi, .map (some B), .slice (some ⟨b, 0, none⟩) m cap, .slice (some ⟨PB, 0, none⟩) 1 1]) rfl (by kernel_rfl) (by kernel_rfl) (by kernel_rfl) (fun _ _ _ h => absurd h.1 (by simp)) (Or.inl ⟨by rfl, fun w7 hSw => ?_⟩) (by assumption) ?_
          · have q_ := HG4.out _ hSw
            have q0 := cell_of_row _ _ 0 _ _ _ q_
            have q1 := cell_of_row _ _ 1 _ _ _ q_
            have q2 := cell_of_row _ _ 2 _ _ _ q_
            have q3 := cell_of_row _ _ 3 _ _ _ q_
            have q4 := cell_of_row _ _ 4 _ _ _ q_
            clear q_
            clear hSw
            go_simp
          try simp only [Act.put, List.setIfInBounds_toArray, List.set_cons_zero, List.set_cons_succ]
          have K0 := Lib.hid hHeld
          clear hHeld
          generalize W4.drew = xt0 at K0 ⊢
          refine wpAnyH_ready (rs := [6, 10, 11]) (by kernel_rfl) (by simp) ?_
          refine AllReadyH.cons rfl (fun K hK => ?_) (AllReadyH.cons rfl (fun K hK => ?_) (AllReadyH.cons rfl (fun K hK => ?_) AllReadyH.nil))
          · skip
            go_simp
            go_at_call 40
            refine (HR4.out _ K0.out).mono ?_
            rintro e xt1 ⟨gf, F, rfl, hfr1, hfk1, hgl1, hb1⟩
            have K1 := Lib.hid (kTrans K0.out hb1)
            have fl1 := Lib.hid hfr1
            refine hK.out _ _ K1.out (fun _ => ?_)
            clear hK K hb1 hfr1
            refine wpOp_monoC (T := fun W' => Below W4.heap.size W4 W' ∧ FRow W' gf m F) (fun _ h => h.1) _ _ _ _ ?_
            have hS_ : Below W4.heap.size W4 xt1 ∧ FRow xt1 gf m F := ⟨K1.out, fl1.out⟩
            refine wpAnyH_take (i := 8) (v := .pointer (some ⟨gf, k * 3, none⟩)) rfl (by kernel_rfl) (by kernel_rfl) (by kernel_rfl) (fun _ _ _ h => absurd h.1 (by simp)) (Or.inl ⟨by rfl, fun w7 hSw => ?_⟩) (by assumption) ?_
            · clear hSw
              go_simp
            try simp only [Act.put, List.setIfInBounds_toArray, List.set_cons_zero, List.set_cons_succ]
            refine wpAnyH_take (i := 9) (v := .agg #[.int .i64 f.tick, .int .i8 f.frm, .int .i64 f.who]) rfl (by kernel_rfl) (by kernel_rfl) (by kernel_rfl) (fun _ _ _ h => absurd h.1 (by simp)) (Or.inl ⟨by rfl, fun w7 hSw => ?_⟩) (by assumption) ?_
            · obtain ⟨q0, q1, q2⟩ := hSw.2.at_ k hkm
              rw [hfk1] at q0 q1 q2
              clear hSw
              go_simp
            try simp only [Act.put, List.setIfInBounds_toArray, List.set_cons_zero, List.set_cons_succ]
            clear hS_
            refine wpAnyH_ready (rs := [10, 11]) (by kernel_rfl) (by simp) ?_
            refine AllReadyH.cons rfl (fun K hK => ?_) (AllReadyH.cons rfl (fun K hK => ?_) AllReadyH.nil)
            · skip
              go_simp
              obtain ⟨xt2, et2⟩ : ∃ z, xt1.alloc (.cells #[.int .i8 0, .int .i8 0, .int .i8 0, .int .i8 0, .int .i8 0] 71) = z := ⟨_, rfl⟩
              have kt2 : Below xt1.heap.size xt1 xt2 := by rw [← et2]; exact kAlloc (Below.refl _ _) _
              have bt2 : xt2.heap[xt1.heap.size]? = some (.cells #[.int .i8 0, .int .i8 0, .int .i8 0, .int .i8 0, .int .i8 0] 71 (0, 0)) := by rw [← et2]; exact heap_alloc_new _ _
              try rw [et2]
              obtain ⟨gt2, ft2⟩ : ∃ z, xt1.heap.size = z := ⟨_, rfl⟩
              have K2 := Lib.hid (kTrans K1.out kt2)
              have lt2 : W4.heap.size ≤ gt2 := by have := K1.out.size; omega
              have fl2 := Lib.hid (fl1.out.below kt2)
              have zz2 : gt2 ≠ gf := by have := fl1.out.lt; omega
              rw [ft2] at bt2 ⊢
              have b10_2 := Lib.hid bt2
              refine hK.out _ _ ⟨K2.out, fl2.out⟩ (fun _ => ?_)
              clear hK K kt2 bt2 et2 ft2
              refine wpAnyH_ready (rs := [11]) (by kernel_rfl) (by simp) ?_
              refine AllReadyH.cons rfl (fun K hK => ?_) AllReadyH.nil
              · skip
                go_simp
                obtain ⟨xt3, et3⟩ : ∃ z, xt2.alloc (.cells #[.int .i64 0, .int .i8 0, .int .i64 0] 73) = z := ⟨_, rfl⟩
                have kt3 : Below xt2.heap.size xt2 xt3 := by rw [← et3]; exact kAlloc (Below.refl _ _) _
                have bt3 : xt3.heap[xt2.heap.size]? = some (.cells #[.int .i64 0, .int .i8 0, .int .i64 0] 73 (0, 0)) := by rw [← et3]; exact heap_alloc_new _ _
                try rw [et3]
                obtain ⟨gt3, ft3⟩ : ∃ z, xt2.heap.size = z := ⟨_, rfl⟩
                have K3 := Lib.hid (kTrans K2.out kt3)
                have lt3 : W4.heap.size ≤ gt3 := by have := K2.out.size; omega
                have b10_3 := Lib.hid (blk_below b10_2.out kt3)
                have wb10_3 : gt2 ≠ gt3 := by have := blk_lt b10_2.out; omega
                have fl3 := Lib.hid (fl2.out.below kt3)
                have zz3 : gt3 ≠ gf := by have := fl2.out.lt; omega
                rw [ft3] at bt3 ⊢
                have b11_3 := Lib.hid bt3
                refine hK.out _ _ ⟨K3.out, fl3.out⟩ (fun _ => ?_)
                clear hK K kt3 bt3 et3 ft3
                refine wpAnyH_ready (rs := [12]) (by kernel_rfl) (by simp) ?_
                refine AllReadyH.cons rfl (fun K hK => ?_) AllReadyH.nil
                · skip
                  have q0 : xt3.cell? ⟨gt2, 0, none⟩ = some (.int .i8 0) := cell_of_row _ _ 0 _ _ _ b10_3.out
                  have y0 : xt3.frozen? ⟨gt2, 0, none⟩ = false := frozen_of_row _ _ 0 _ _ b10_3.out
                  have q1 : xt3.cell? ⟨gt2, 1, none⟩ = some (.int .i8 0) := cell_of_row _ _ 1 _ _ _ b10_3.out
                  have y1 : xt3.frozen? ⟨gt2, 1, none⟩ = false := frozen_of_row _ _ 1 _ _ b10_3.out
                  have q2 : xt3.cell? ⟨gt2, 2, none⟩ = some (.int .i8 0) := cell_of_row _ _ 2 _ _ _ b10_3.out
                  have y2 : xt3.frozen? ⟨gt2, 2, none⟩ = false := frozen_of_row _ _ 2 _ _ b10_3.out
                  have q3 : xt3.cell? ⟨gt2, 3, none⟩ = some (.int .i8 0) := cell_of_row _ _ 3 _ _ _ b10_3.out
                  have y3 : xt3.frozen? ⟨gt2, 3, none⟩ = false := frozen_of_row _ _ 3 _ _ b10_3.out
                  have q4 : xt3.cell? ⟨gt2, 4, none⟩ = some (.int .i8 0) := cell_of_row _ _ 4 _ _ _ b10_3.out
                  have y4 : xt3.frozen? ⟨gt2, 4, none⟩ = false := frozen_of_row _ _ 4 _ _ b10_3.out
                  have lz := blk_lt b10_3.out
                  go_simp
                  have K4 : Hid (Below W4.heap.size W4 (((((xt3.setCell ⟨gt2, 0, none⟩ (.int .i8 q.x)).setCell ⟨gt2, 1, none⟩ (.int .i8 q.y)).setCell ⟨gt2, 2, none⟩ (.int .i8 q.kind)).setCell ⟨gt2, 3, none⟩ (.int .i8 q.turn)).setCell ⟨gt2, 4, none⟩ (.int .i8 q.delay))) := Lib.hid (kSet (kSet (kSet (kSet (kSet K3.out lt2 _) lt2 _) lt2 _) lt2 _) lt2 _)
                  have b10_4 : Hid ((((((xt3.setCell ⟨gt2, 0, none⟩ (.int .i8 q.x)).setCell ⟨gt2, 1, none⟩ (.int .i8 q.y)).setCell ⟨gt2, 2, none⟩ (.int .i8 q.kind)).setCell ⟨gt2, 3, none⟩ (.int .i8 q.turn)).setCell ⟨gt2, 4, none⟩ (.int .i8 q.delay)).heap[gt2]? = some (.cells #[.int .i8 q.x, .int .i8 q.y, .int .i8 q.kind, .int .i8 q.turn, .int .i8 q.delay] 71 (0, 0))) := Lib.hid (blk_set_same' (blk_set_same' (blk_set_same' (blk_set_same' (blk_set_same' b10_3.out)))))
                  have b11_4 : Hid ((((((xt3.setCell ⟨gt2, 0, none⟩ (.int .i8 q.x)).setCell ⟨gt2, 1, none⟩ (.int .i8 q.y)).setCell ⟨gt2, 2, none⟩ (.int .i8 q.kind)).setCell ⟨gt2, 3, none⟩ (.int .i8 q.turn)).setCell ⟨gt2, 4, none⟩ (.int .i8 q.delay)).heap[gt3]? = some (.cells #[.int .i64 0, .int .i8 0, .int .i64 0] 73 (0, 0))) := Lib.hid (blk_set (blk_set (blk_set (blk_set (blk_set b11_3.out wb10_3.symm) wb10_3.symm) wb10_3.symm) wb10_3.symm) wb10_3.symm)
                  have fl4 : Hid (FRow (((((xt3.setCell ⟨gt2, 0, none⟩ (.int .i8 q.x)).setCell ⟨gt2, 1, none⟩ (.int .i8 q.y)).setCell ⟨gt2, 2, none⟩ (.int .i8 q.kind)).setCell ⟨gt2, 3, none⟩ (.int .i8 q.turn)).setCell ⟨gt2, 4, none⟩ (.int .i8 q.delay)) gf m F) := Lib.hid (FRow.far (FRow.far (FRow.far (FRow.far (FRow.far fl3.out zz2) zz2) zz2) zz2) zz2)
                  refine hK.out _ _ ⟨K4.out, fl4.out⟩ (fun _ => ?_)
                  clear hK K lz q0 y0 q1 y1 q2 y2 q3 y3 q4 y4
                  generalize (((((xt3.setCell ⟨gt2, 0, none⟩ (.int .i8 q.x)).setCell ⟨gt2, 1, none⟩ (.int .i8 q.y)).setCell ⟨gt2, 2, none⟩ (.int .i8 q.kind)).setCell ⟨gt2, 3, none⟩ (.int .i8 q.turn)).setCell ⟨gt2, 4, none⟩ (.int .i8 q.delay)) = xt4 at K4 b10_4 b11_4 fl4 ⊢
                  refine wpAnyH_ready (rs := [13]) (by kernel_rfl) (by simp) ?_
                  refine AllReadyH.cons rfl (fun K hK => ?_) AllReadyH.nil
                  · skip
                    have q0 : xt4.cell? ⟨gt3, 0, none⟩ = some (.int .i64 0) := cell_of_row _ _ 0 _ _ _ b11_4.out
                    have y0 : xt4.frozen? ⟨gt3, 0, none⟩ = false := frozen_of_row _ _ 0 _ _ b11_4.out
                    have q1 : xt4.cell? ⟨gt3, 1, none⟩ = some (.int .i8 0) := cell_of_row _ _ 1 _ _ _ b11_4.out
                    have y1 : xt4.frozen? ⟨gt3, 1, none⟩ = false := frozen_of_row _ _ 1 _ _ b11_4.out
                    have q2 : xt4.cell? ⟨gt3, 2, none⟩ = some (.int .i64 0) := cell_of_row _ _ 2 _ _ _ b11_4.out
                    have y2 : xt4.frozen? ⟨gt3, 2, none⟩ = false := frozen_of_row _ _ 2 _ _ b11_4.out
                    have lz := blk_lt b11_4.out
                    go_simp
                    have K5 : Hid (Below W4.heap.size W4 (((xt4.setCell ⟨gt3, 0, none⟩ (.int .i64 f.tick)).setCell ⟨gt3, 1, none⟩ (.int .i8 f.frm)).setCell ⟨gt3, 2, none⟩ (.int .i64 f.who))) := Lib.hid (kSet (kSet (kSet K4.out lt3 _) lt3 _) lt3 _)
                    have b11_5 : Hid ((((xt4.setCell ⟨gt3, 0, none⟩ (.int .i64 f.tick)).setCell ⟨gt3, 1, none⟩ (.int .i8 f.frm)).setCell ⟨gt3, 2, none⟩ (.int .i64 f.who)).heap[gt3]? = some (.cells #[.int .i64 f.tick, .int .i8 f.frm, .int .i64 f.who] 73 (0, 0))) := Lib.hid (blk_set_same' (blk_set_same' (blk_set_same' b11_4.out)))
                    have b10_5 : Hid ((((xt4.setCell ⟨gt3, 0, none⟩ (.int .i64 f.tick)).setCell ⟨gt3, 1, none⟩ (.int .i8 f.frm)).setCell ⟨gt3, 2, none⟩ (.int .i64 f.who)).heap[gt2]? = some (.cells #[.int .i8 q.x, .int .i8 q.y, .int .i8 q.kind, .int .i8 q.turn, .int .i8 q.delay] 71 (0, 0))) := Lib.hid (blk_set (blk_set (blk_set b10_4.out wb10_3) wb10_3) wb10_3)
                    have fl5 : Hid (FRow (((xt4.setCell ⟨gt3, 0, none⟩ (.int .i64 f.tick)).setCell ⟨gt3, 1, none⟩ (.int .i8 f.frm)).setCell ⟨gt3, 2, none⟩ (.int .i64 f.who)) gf m F) := Lib.hid (FRow.far (FRow.far (FRow.far fl4.out zz3) zz3) zz3)
                    refine hK.out _ _ ⟨K5.out, fl5.out⟩ (fun _ => ?_)
                    clear hK K lz q0 y0 q1 y1 q2 y2
                    generalize (((xt4.setCell ⟨gt3, 0, none⟩ (.int .i64 f.tick)).setCell ⟨gt3, 1, none⟩ (.int .i8 f.frm)).setCell ⟨gt3, 2, none⟩ (.int .i64 f.who)) = xt5 at K5 b10_5 b11_5 fl5 ⊢
                    refine wpAnyH_done (by kernel_rfl) ?_ _
                    refine ⟨rfl, ?_⟩
                    go_wp2_with fail
                    go_meet
                    exact ⟨gt2, gt3, rfl, rfl, b10_5, b11_5, K5⟩
            · skip
              go_simp
              obtain ⟨xt2, et2⟩ : ∃ z, xt1.alloc (.cells #[.int .i64 0, .int .i8 0, .int .i64 0] 73) = z := ⟨_, rfl⟩
              have kt2 : Below xt1.heap.size xt1 xt2 := by rw [← et2]; exact kAlloc (Below.refl _ _) _
              have bt2 : xt2.heap[xt1.heap.size]? = some (.cells #[.int .i64 0, .int .i8 0, .int .i64 0] 73 (0, 0)) := by rw [← et2]; exact heap_alloc_new _ _
              try rw [et2]
              obtain ⟨gt2, ft2⟩ : ∃ z, xt1.heap.size = z := ⟨_, rfl⟩
              have K2 := Lib.hid (kTrans K1.out kt2)
              have lt2 : W4.heap.size ≤ gt2 := by have := K1.out.size; omega
              have fl2 := Lib.hid (fl1.out.below kt2)
              have zz2 : gt2 ≠ gf := by have := fl1.out.lt; omega
              rw [ft2] at bt2 ⊢
              have b11_2 := Lib.hid bt2
              refine hK.out _ _ ⟨K2.out, fl2.out⟩ (fun _ => ?_)
              clear hK K kt2 bt2 et2 ft2
              refine wpAnyH_ready (rs := [10]) (by kernel_rfl) (by simp) ?_
              refine AllReadyH.cons rfl (fun K hK => ?_) AllReadyH.nil
              · skip
                go_simp
                obtain ⟨xt3, et3⟩ : ∃ z, xt2.alloc (.cells #[.int .i8 0, .int .i8 0, .int .i8 0, .int .i8 0, .int .i8 0] 71) = z := ⟨_, rfl⟩
                have kt3 : Below xt2.heap.size xt2 xt3 := by rw [← et3]; exact kAlloc (Below.refl _ _) _
                have bt3 : xt3.heap[xt2.heap.size]? = some (.cells #[.int .i8 0, .int .i8 0, .int .i8 0, .int .i8 0, .int .i8 0] 71 (0, 0)) := by rw [← et3]; exact heap_alloc_new _ _
                try rw [et3]
                obtain ⟨gt3, ft3⟩ : ∃ z, xt2.heap.size = z := ⟨_, rfl⟩
                have K3 := Lib.hid (kTrans K2.out kt3)
                have lt3 : W4.heap.size ≤ gt3 := by have := K2.out.size; omega
                have b11_3 := Lib.hid (blk_below b11_2.out kt3)
                have wb11_3 : gt2 ≠ gt3 := by have := blk_lt b11_2.out; omega
                have fl3 := Lib.hid (fl2.out.below kt3)
                have zz3 : gt3 ≠ gf := by have := fl2.out.lt; omega
                rw [ft3] at bt3 ⊢
                have b10_3 := Lib.hid bt3
                refine hK.out _ _ ⟨K3.out, fl3.out⟩ (fun _ => ?_)
                clear hK K kt3 bt3 et3 ft3
                refine wpAnyH_ready (rs := [12]) (by kernel_rfl) (by simp) ?_
                refine AllReadyH.cons rfl (fun K hK => ?_) AllReadyH.nil
                · skip
                  have q0 : xt3.cell? ⟨gt3, 0, none⟩ = some (.int .i8 0) := cell_of_row _ _ 0 _ _ _ b10_3.out
                  have y0 : xt3.frozen? ⟨gt3, 0, none⟩ = false := frozen_of_row _ _ 0 _ _ b10_3.out
                  have q1 : xt3.cell? ⟨gt3, 1, none⟩ = some (.int .i8 0) := cell_of_row _ _ 1 _ _ _ b10_3.out
                  have y1 : xt3.frozen? ⟨gt3, 1, none⟩ = false := frozen_of_row _ _ 1 _ _ b10_3.out
                  have q2 : xt3.cell? ⟨gt3, 2, none⟩ = some (.int .i8 0) := cell_of_row _ _ 2 _ _ _ b10_3.out
                  have y2 : xt3.frozen? ⟨gt3, 2, none⟩ = false := frozen_of_row _ _ 2 _ _ b10_3.out
                  have q3 : xt3.cell? ⟨gt3, 3, none⟩ = some (.int .i8 0) := cell_of_row _ _ 3 _ _ _ b10_3.out
                  have y3 : xt3.frozen? ⟨gt3, 3, none⟩ = false := frozen_of_row _ _ 3 _ _ b10_3.out
                  have q4 : xt3.cell? ⟨gt3, 4, none⟩ = some (.int .i8 0) := cell_of_row _ _ 4 _ _ _ b10_3.out
                  have y4 : xt3.frozen? ⟨gt3, 4, none⟩ = false := frozen_of_row _ _ 4 _ _ b10_3.out
                  have lz := blk_lt b10_3.out
                  go_simp
                  have K4 : Hid (Below W4.heap.size W4 (((((xt3.setCell ⟨gt3, 0, none⟩ (.int .i8 q.x)).setCell ⟨gt3, 1, none⟩ (.int .i8 q.y)).setCell ⟨gt3, 2, none⟩ (.int .i8 q.kind)).setCell ⟨gt3, 3, none⟩ (.int .i8 q.turn)).setCell ⟨gt3, 4, none⟩ (.int .i8 q.delay))) := Lib.hid (kSet (kSet (kSet (kSet (kSet K3.out lt3 _) lt3 _) lt3 _) lt3 _) lt3 _)
                  have b10_4 : Hid ((((((xt3.setCell ⟨gt3, 0, none⟩ (.int .i8 q.x)).setCell ⟨gt3, 1, none⟩ (.int .i8 q.y)).setCell ⟨gt3, 2, none⟩ (.int .i8 q.kind)).setCell ⟨gt3, 3, none⟩ (.int .i8 q.turn)).setCell ⟨gt3, 4, none⟩ (.int .i8 q.delay)).heap[gt3]? = some (.cells #[.int .i8 q.x, .int .i8 q.y, .int .i8 q.kind, .int .i8 q.turn, .int .i8 q.delay] 71 (0, 0))) := Lib.hid (blk_set_same' (blk_set_same' (blk_set_same' (blk_set_same' (blk_set_same' b10_3.out)))))
                  have b11_4 : Hid ((((((xt3.setCell ⟨gt3, 0, none⟩ (.int .i8 q.x)).setCell ⟨gt3, 1, none⟩ (.int .i8 q.y)).setCell ⟨gt3, 2, none⟩ (.int .i8 q.kind)).setCell ⟨gt3, 3, none⟩ (.int .i8 q.turn)).setCell ⟨gt3, 4, none⟩ (.int .i8 q.delay)).heap[gt2]? = some (.cells #[.int .i64 0, .int .i8 0, .int .i64 0] 73 (0, 0))) := Lib.hid (blk_set (blk_set (blk_set (blk_set (blk_set b11_3.out wb11_3) wb11_3) wb11_3) wb11_3) wb11_3)
                  have fl4 : Hid (FRow (((((xt3.setCell ⟨gt3, 0, none⟩ (.int .i8 q.x)).setCell ⟨gt3, 1, none⟩ (.int .i8 q.y)).setCell ⟨gt3, 2, none⟩ (.int .i8 q.kind)).setCell ⟨gt3, 3, none⟩ (.int .i8 q.turn)).setCell ⟨gt3, 4, none⟩ (.int .i8 q.delay)) gf m F) := Lib.hid (FRow.far (FRow.far (FRow.far (FRow.far (FRow.far fl3.out zz3) zz3) zz3) zz3) zz3)
                  refine hK.out _ _ ⟨K4.out, fl4.out⟩ (fun _ => ?_)
                  clear hK K lz q0 y0 q1 y1 q2 y2 q3 y3 q4 y4
                  generalize (((((xt3.setCell ⟨gt3, 0, none⟩ (.int .i8 q.x)).setCell ⟨gt3, 1, none⟩ (.int .i8 q.y)).setCell ⟨gt3, 2, none⟩ (.int .i8 q.kind)).setCell ⟨gt3, 3, none⟩ (.int .i8 q.turn)).setCell ⟨gt3, 4, none⟩ (.int .i8 q.delay)) = xt4 at K4 b10_4 b11_4 fl4 ⊢
                  refine wpAnyH_ready (rs := [13]) (by kernel_rfl) (by simp) ?_
                  refine AllReadyH.cons rfl (fun K hK => ?_) AllReadyH.nil
                  · skip
                    have q0 : xt4.cell? ⟨gt2, 0, none⟩ = some (.int .i64 0) := cell_of_row _ _ 0 _ _ _ b11_4.out
                    have y0 : xt4.frozen? ⟨gt2, 0, none⟩ = false := frozen_of_row _ _ 0 _ _ b11_4.out
                    have q1 : xt4.cell? ⟨gt2, 1, none⟩ = some (.int .i8 0) := cell_of_row _ _ 1 _ _ _ b11_4.out
                    have y1 : xt4.frozen? ⟨gt2, 1, none⟩ = false := frozen_of_row _ _ 1 _ _ b11_4.out
                    have q2 : xt4.cell? ⟨gt2, 2, none⟩ = some (.int .i64 0) := cell_of_row _ _ 2 _ _ _ b11_4.out
                    have y2 : xt4.frozen? ⟨gt2, 2, none⟩ = false := frozen_of_row _ _ 2 _ _ b11_4.out
                    have lz := blk_lt b11_4.out
                    go_simp
                    have K5 : Hid (Below W4.heap.size W4 (((xt4.setCell ⟨gt2, 0, none⟩ (.int .i64 f.tick)).setCell ⟨gt2, 1, none⟩ (.int .i8 f.frm)).setCell ⟨gt2, 2, none⟩ (.int .i64 f.who))) := Lib.hid (kSet (kSet (kSet K4.out lt2 _) lt2 _) lt2 _)
                    have b11_5 : Hid ((((xt4.setCell ⟨gt2, 0, none⟩ (.int .i64 f.tick)).setCell ⟨gt2, 1, none⟩ (.int .i8 f.frm)).setCell ⟨gt2, 2, none⟩ (.int .i64 f.who)).heap[gt2]? = some (.cells #[.int .i64 f.tick, .int .i8 f.frm, .int .i64 f.who] 73 (0, 0))) := Lib.hid (blk_set_same' (blk_set_same' (blk_set_same' b11_4.out)))
                    have b10_5 : Hid ((((xt4.setCell ⟨gt2, 0, none⟩ (.int .i64 f.tick)).setCell ⟨gt2, 1, none⟩ (.int .i8 f.frm)).setCell ⟨gt2, 2, none⟩ (.int .i64 f.who)).heap[gt3]? = some (.cells #[.int .i8 q.x, .int .i8 q.y, .int .i8 q.kind, .int .i8 q.turn, .int .i8 q.delay] 71 (0, 0))) := Lib.hid (blk_set (blk_set (blk_set b10_4.out wb11_3.symm) wb11_3.symm) wb11_3.symm)
                    have fl5 : Hid (FRow (((xt4.setCell ⟨gt2, 0, none⟩ (.int .i64 f.tick)).setCell ⟨gt2, 1, none⟩ (.int .i8 f.frm)).setCell ⟨gt2, 2, none⟩ (.int .i64 f.who)) gf m F) := Lib.hid (FRow.far (FRow.far (FRow.far fl4.out zz2) zz2) zz2)
                    refine hK.out _ _ ⟨K5.out, fl5.out⟩ (fun _ => ?_)
                    clear hK K lz q0 y0 q1 y1 q2 y2
                    generalize (((xt4.setCell ⟨gt2, 0, none⟩ (.int .i64 f.tick)).setCell ⟨gt2, 1, none⟩ (.int .i8 f.frm)).setCell ⟨gt2, 2, none⟩ (.int .i64 f.who)) = xt5 at K5 b10_5 b11_5 fl5 ⊢
                    refine wpAnyH_done (by kernel_rfl) ?_ _
                    refine ⟨rfl, ?_⟩
                    go_wp2_with fail
                    go_meet
                    exact ⟨gt3, gt2, rfl, rfl, b10_5, b11_5, K5⟩
          · skip
            go_simp
            obtain ⟨xt1, et1⟩ : ∃ z, xt0.alloc (.cells #[.int .i8 0, .int .i8 0, .int .i8 0, .int .i8 0, .int .i8 0] 71) = z := ⟨_, rfl⟩
            have kt1 : Below xt0.heap.size xt0 xt1 := by rw [← et1]; exact kAlloc (Below.refl _ _) _
            have bt1 : xt1.heap[xt0.heap.size]? = some (.cells #[.int .i8 0, .int .i8 0, .int .i8 0, .int .i8 0, .int .i8 0] 71 (0, 0)) := by rw [← et1]; exact heap_alloc_new _ _
            try rw [et1]
            obtain ⟨gt1, ft1⟩ : ∃ z, xt0.heap.size = z := ⟨_, rfl⟩
            have K1 := Lib.hid (kTrans K0.out kt1)
            have lt1 : W4.heap.size ≤ gt1 := by have := K0.out.size; omega
            rw [ft1] at bt1 ⊢
            have b10_1 := Lib.hid bt1
            refine hK.out _ _ K1.out (fun _ => ?_)
            clear hK K kt1 bt1 et1 ft1
            refine wpAnyH_ready (rs := [6, 11]) (by kernel_rfl) (by simp) ?_
            refine AllReadyH.cons rfl (fun K hK => ?_) (AllReadyH.cons rfl (fun K hK => ?_) AllReadyH.nil)
            · skip
              go_simp
              go_at_call 40
              refine (HR4.out _ K1.out).mono ?_
              rintro e xt2 ⟨gf, F, rfl, hfr2, hfk2, hgl2, hb2⟩
              have K2 := Lib.hid (kTrans K1.out hb2)
              have fl2 := Lib.hid hfr2
              have b10_2 := Lib.hid (blk_below b10_1.out hb2)
              have zb10_2 : gt1 ≠ gf := by have := blk_lt b10_1.out; omega
              refine hK.out _ _ K2.out (fun _ => ?_)
              clear hK K hb2 hfr2
              refine wpOp_monoC (T := fun W' => Below W4.heap.size W4 W' ∧ FRow W' gf m F) (fun _ h => h.1) _ _ _ _ ?_
              have hS_ : Below W4.heap.size W4 xt2 ∧ FRow xt2 gf m F := ⟨K2.out, fl2.out⟩
              refine wpAnyH_take (i := 8) (v := .pointer (some ⟨gf, k * 3, none⟩)) rfl (by kernel_rfl) (by kernel_rfl) (by kernel_rfl) (fun _ _ _ h => absurd h.1 (by simp)) (Or.inl ⟨by rfl, fun w7 hSw => ?_⟩) (by assumption) ?_
              · clear hSw
                go_simp
              try simp only [Act.put, List.setIfInBounds_toArray, List.set_cons_zero, List.set_cons_succ]
              refine wpAnyH_take (i := 9) (v := .agg #[.int .i64 f.tick, .int .i8 f.frm, .int .i64 f.who]) rfl (by kernel_rfl) (by kernel_rfl) (by kernel_rfl) (fun _ _ _ h => absurd h.1 (by simp)) (Or.inl ⟨by rfl, fun w7 hSw => ?_⟩) (by assumption) ?_
              · obtain ⟨q0, q1, q2⟩ := hSw.2.at_ k hkm
                rw [hfk2] at q0 q1 q2
                clear hSw
                go_simp
              try simp only [Act.put, List.setIfInBounds_toArray, List.set_cons_zero, List.set_cons_succ]
              clear hS_
              refine wpAnyH_ready (rs := [11]) (by kernel_rfl) (by simp) ?_
              refine AllReadyH.cons rfl (fun K hK => ?_) AllReadyH.nil
              · skip
                go_simp
                obtain ⟨xt3, et3⟩ : ∃ z, xt2.alloc (.cells #[.int .i64 0, .int .i8 0, .int .i64 0] 73) = z := ⟨_, rfl⟩
                have kt3 : Below xt2.heap.size xt2 xt3 := by rw [← et3]; exact kAlloc (Below.refl _ _) _
                have bt3 : xt3.heap[xt2.heap.size]? = some (.cells #[.int .i64 0, .int .i8 0, .int .i64 0] 73 (0, 0)) := by rw [← et3]; exact heap_alloc_new _ _
                try rw [et3]
                obtain ⟨gt3, ft3⟩ : ∃ z, xt2.heap.size = z := ⟨_, rfl⟩
                have K3 := Lib.hid (kTrans K2.out kt3)
                have lt3 : W4.heap.size ≤ gt3 := by have := K2.out.size; omega
                have b10_3 := Lib.hid (blk_below b10_2.out kt3)
                have wb10_3 : gt1 ≠ gt3 := by have := blk_lt b10_2.out; omega
                have fl3 := Lib.hid (fl2.out.below kt3)
                have zz3 : gt3 ≠ gf := by have := fl2.out.lt; omega
                rw [ft3] at bt3 ⊢
                have b11_3 := Lib.hid bt3
                refine hK.out _ _ ⟨K3.out, fl3.out⟩ (fun _ => ?_)
                clear hK K kt3 bt3 et3 ft3
                refine wpAnyH_ready (rs := [12]) (by kernel_rfl) (by simp) ?_
                refine AllReadyH.cons rfl (fun K hK => ?_) AllReadyH.nil
                · skip
                  have q0 : xt3.cell? ⟨gt1, 0, none⟩ = some (.int .i8 0) := cell_of_row _ _ 0 _ _ _ b10_3.out
                  have y0 : xt3.frozen? ⟨gt1, 0, none⟩ = false := frozen_of_row _ _ 0 _ _ b10_3.out
                  have q1 : xt3.cell? ⟨gt1, 1, none⟩ = some (.int .i8 0) := cell_of_row _ _ 1 _ _ _ b10_3.out
                  have y1 : xt3.frozen? ⟨gt1, 1, none⟩ = false := frozen_of_row _ _ 1 _ _ b10_3.out
                  have q2 : xt3.cell? ⟨gt1, 2, none⟩ = some (.int .i8 0) := cell_of_row _ _ 2 _ _ _ b10_3.out
                  have y2 : xt3.frozen? ⟨gt1, 2, none⟩ = false := frozen_of_row _ _ 2 _ _ b10_3.out
                  have q3 : xt3.cell? ⟨gt1, 3, none⟩ = some (.int .i8 0) := cell_of_row _ _ 3 _ _ _ b10_3.out
                  have y3 : xt3.frozen? ⟨gt1, 3, none⟩ = false := frozen_of_row _ _ 3 _ _ b10_3.out
                  have q4 : xt3.cell? ⟨gt1, 4, none⟩ = some (.int .i8 0) := cell_of_row _ _ 4 _ _ _ b10_3.out
                  have y4 : xt3.frozen? ⟨gt1, 4, none⟩ = false := frozen_of_row _ _ 4 _ _ b10_3.out
                  have lz := blk_lt b10_3.out
                  go_simp
                  have K4 : Hid (Below W4.heap.size W4 (((((xt3.setCell ⟨gt1, 0, none⟩ (.int .i8 q.x)).setCell ⟨gt1, 1, none⟩ (.int .i8 q.y)).setCell ⟨gt1, 2, none⟩ (.int .i8 q.kind)).setCell ⟨gt1, 3, none⟩ (.int .i8 q.turn)).setCell ⟨gt1, 4, none⟩ (.int .i8 q.delay))) := Lib.hid (kSet (kSet (kSet (kSet (kSet K3.out lt1 _) lt1 _) lt1 _) lt1 _) lt1 _)
                  have b10_4 : Hid ((((((xt3.setCell ⟨gt1, 0, none⟩ (.int .i8 q.x)).setCell ⟨gt1, 1, none⟩ (.int .i8 q.y)).setCell ⟨gt1, 2, none⟩ (.int .i8 q.kind)).setCell ⟨gt1, 3, none⟩ (.int .i8 q.turn)).setCell ⟨gt1, 4, none⟩ (.int .i8 q.delay)).heap[gt1]? = some (.cells #[.int .i8 q.x, .int .i8 q.y, .int .i8 q.kind, .int .i8 q.turn, .int .i8 q.delay] 71 (0, 0))) := Lib.hid (blk_set_same' (blk_set_same' (blk_set_same' (blk_set_same' (blk_set_same' b10_3.out)))))
                  have b11_4 : Hid ((((((xt3.setCell ⟨gt1, 0, none⟩ (.int .i8 q.x)).setCell ⟨gt1, 1, none⟩ (.int .i8 q.y)).setCell ⟨gt1, 2, none⟩ (.int .i8 q.kind)).setCell ⟨gt1, 3, none⟩ (.int .i8 q.turn)).setCell ⟨gt1, 4, none⟩ (.int .i8 q.delay)).heap[gt3]? = some (.cells #[.int .i64 0, .int .i8 0, .int .i64 0] 73 (0, 0))) := Lib.hid (blk_set (blk_set (blk_set (blk_set (blk_set b11_3.out wb10_3.symm) wb10_3.symm) wb10_3.symm) wb10_3.symm) wb10_3.symm)
                  have fl4 : Hid (FRow (((((xt3.setCell ⟨gt1, 0, none⟩ (.int .i8 q.x)).setCell ⟨gt1, 1, none⟩ (.int .i8 q.y)).setCell ⟨gt1, 2, none⟩ (.int .i8 q.kind)).setCell ⟨gt1, 3, none⟩ (.int .i8 q.turn)).setCell ⟨gt1, 4, none⟩ (.int .i8 q.delay)) gf m F) := Lib.hid (FRow.far (FRow.far (FRow.far (FRow.far (FRow.far fl3.out zb10_2) zb10_2) zb10_2) zb10_2) zb10_2)
                  refine hK.out _ _ ⟨K4.out, fl4.out⟩ (fun _ => ?_)
                  clear hK K lz q0 y0 q1 y1 q2 y2 q3 y3 q4 y4
                  generalize (((((xt3.setCell ⟨gt1, 0, none⟩ (.int .i8 q.x)).setCell ⟨gt1, 1, none⟩ (.int .i8 q.y)).setCell ⟨gt1, 2, none⟩ (.int .i8 q.kind)).setCell ⟨gt1, 3, none⟩ (.int .i8 q.turn)).setCell ⟨gt1, 4, none⟩ (.int .i8 q.delay)) = xt4 at K4 b10_4 b11_4 fl4 ⊢
                  refine wpAnyH_ready (rs := [13]) (by kernel_rfl) (by simp) ?_
                  refine AllReadyH.cons rfl (fun K hK => ?_) AllReadyH.nil
                  · skip
                    have q0 : xt4.cell? ⟨gt3, 0, none⟩ = some (.int .i64 0) := cell_of_row _ _ 0 _ _ _ b11_4.out
                    have y0 : xt4.frozen? ⟨gt3, 0, none⟩ = false := frozen_of_row _ _ 0 _ _ b11_4.out
                    have q1 : xt4.cell? ⟨gt3, 1, none⟩ = some (.int .i8 0) := cell_of_row _ _ 1 _ _ _ b11_4.out
                    have y1 : xt4.frozen? ⟨gt3, 1, none⟩ = false := frozen_of_row _ _ 1 _ _ b11_4.out
                    have q2 : xt4.cell? ⟨gt3, 2, none⟩ = some (.int .i64 0) := cell_of_row _ _ 2 _ _ _ b11_4.out
                    have y2 : xt4.frozen? ⟨gt3, 2, none⟩ = false := frozen_of_row _ _ 2 _ _ b11_4.out
                    have lz := blk_lt b11_4.out
                    go_simp
                    have K5 : Hid (Below W4.heap.size W4 (((xt4.setCell ⟨gt3, 0, none⟩ (.int .i64 f.tick)).setCell ⟨gt3, 1, none⟩ (.int .i8 f.frm)).setCell ⟨gt3, 2, none⟩ (.int .i64 f.who))) := Lib.hid (kSet (kSet (kSet K4.out lt3 _) lt3 _) lt3 _)
                    have b11_5 : Hid ((((xt4.setCell ⟨gt3, 0, none⟩ (.int .i64 f.tick)).setCell ⟨gt3, 1, none⟩ (.int .i8 f.frm)).setCell ⟨gt3, 2, none⟩ (.int .i64 f.who)).heap[gt3]? = some (.cells #[.int .i64 f.tick, .int .i8 f.frm, .int .i64 f.who] 73 (0, 0))) := Lib.hid (blk_set_same' (blk_set_same' (blk_set_same' b11_4.out)))
                    have b10_5 : Hid ((((xt4.setCell ⟨gt3, 0, none⟩ (.int .i64 f.tick)).setCell ⟨gt3, 1, none⟩ (.int .i8 f.frm)).setCell ⟨gt3, 2, none⟩ (.int .i64 f.who)).heap[gt1]? = some (.cells #[.int .i8 q.x, .int .i8 q.y, .int .i8 q.kind, .int .i8 q.turn, .int .i8 q.delay] 71 (0, 0))) := Lib.hid (blk_set (blk_set (blk_set b10_4.out wb10_3) wb10_3) wb10_3)
                    have fl5 : Hid (FRow (((xt4.setCell ⟨gt3, 0, none⟩ (.int .i64 f.tick)).setCell ⟨gt3, 1, none⟩ (.int .i8 f.frm)).setCell ⟨gt3, 2, none⟩ (.int .i64 f.who)) gf m F) := Lib.hid (FRow.far (FRow.far (FRow.far fl4.out zz3) zz3) zz3)
                    refine hK.out _ _ ⟨K5.out, fl5.out⟩ (fun _ => ?_)
                    clear hK K lz q0 y0 q1 y1 q2 y2
                    generalize (((xt4.setCell ⟨gt3, 0, none⟩ (.int .i64 f.tick)).setCell ⟨gt3, 1, none⟩ (.int .i8 f.frm)).setCell ⟨gt3, 2, none⟩ (.int .i64 f.who)) = xt5 at K5 b10_5 b11_5 fl5 ⊢
                    refine wpAnyH_done (by kernel_rfl) ?_ _
                    refine ⟨rfl, ?_⟩
                    go_wp2_with fail
                    go_meet
                    exact ⟨gt1, gt3, rfl, rfl, b10_5, b11_5, K5⟩
            · skip
              go_simp
              obtain ⟨xt2, et2⟩ : ∃ z, xt1.alloc (.cells #[.int .i64 0, .int .i8 0, .int .i64 0] 73) = z := ⟨_, rfl⟩
              have kt2 : Below xt1.heap.size xt1 xt2 := by rw [← et2]; exact kAlloc (Below.refl _ _) _
              have bt2 : xt2.heap[xt1.heap.size]? = some (.cells #[.int .i64 0, .int .i8 0, .int .i64 0] 73 (0, 0)) := by rw [← et2]; exact heap_alloc_new _ _
              try rw [et2]
              obtain ⟨gt2, ft2⟩ : ∃ z, xt1.heap.size = z := ⟨_, rfl⟩
              have K2 := Lib.hid (kTrans K1.out kt2)
              have lt2 : W4.heap.size ≤ gt2 := by have := K1.out.size; omega
              have b10_2 := Lib.hid (blk_below b10_1.out kt2)
              have wb10_2 : gt1 ≠ gt2 := by have := blk_lt b10_1.out; omega
              rw [ft2] at bt2 ⊢
              have b11_2 := Lib.hid bt2
              refine hK.out _ _ K2.out (fun _ => ?_)
              clear hK K kt2 bt2 et2 ft2
              refine wpAnyH_ready (rs := [6]) (by kernel_rfl) (by simp) ?_
              refine AllReadyH.cons rfl (fun K hK => ?_) AllReadyH.nil
              · skip
                go_simp
                go_at_call 40
                refine (HR4.out _ K2.out).mono ?_
                rintro e xt3 ⟨gf, F, rfl, hfr3, hfk3, hgl3, hb3⟩
                have K3 := Lib.hid (kTrans K2.out hb3)
                have fl3 := Lib.hid hfr3
                have b10_3 := Lib.hid (blk_below b10_2.out hb3)
                have zb10_3 : gt1 ≠ gf := by have := blk_lt b10_2.out; omega
                have b11_3 := Lib.hid (blk_below b11_2.out hb3)
                have zb11_3 : gt2 ≠ gf := by have := blk_lt b11_2.out; omega
                refine hK.out _ _ K3.out (fun _ => ?_)
                clear hK K hb3 hfr3
                refine wpOp_monoC (T := fun W' => Below W4.heap.size W4 W' ∧ FRow W' gf m F) (fun _ h => h.1) _ _ _ _ ?_
                have hS_ : Below W4.heap.size W4 xt3 ∧ FRow xt3 gf m F := ⟨K3.out, fl3.out⟩
                refine wpAnyH_take (i := 8) (v := .pointer (some ⟨gf, k * 3, none⟩)) rfl (by kernel_rfl) (by kernel_rfl) (by kernel_rfl) (fun _ _ _ h => absurd h.1 (by simp)) (Or.inl ⟨by rfl, fun w7 hSw => ?_⟩) (by assumption) ?_
                · clear hSw
                  go_simp
                try simp only [Act.put, List.setIfInBounds_toArray, List.set_cons_zero, List.set_cons_succ]
                refine wpAnyH_take (i := 9) (v := .agg #[.int .i64 f.tick, .int .i8 f.frm, .int .i64 f.who]) rfl (by kernel_rfl) (by kernel_rfl) (by kernel_rfl) (fun _ _ _ h => absurd h.1 (by simp)) (Or.inl ⟨by rfl, fun w7 hSw => ?_⟩) (by assumption) ?_
                · obtain ⟨q0, q1, q2⟩ := hSw.2.at_ k hkm
                  rw [hfk3] at q0 q1 q2
                  clear hSw
                  go_simp
                try simp only [Act.put, List.setIfInBounds_toArray, List.set_cons_zero, List.set_cons_succ]
                clear hS_
                refine wpAnyH_ready (rs := [12]) (by kernel_rfl) (by simp) ?_
                refine AllReadyH.cons rfl (fun K hK => ?_) AllReadyH.nil
                · skip
                  have q0 : xt3.cell? ⟨gt1, 0, none⟩ = some (.int .i8 0) := cell_of_row _ _ 0 _ _ _ b10_3.out
                  have y0 : xt3.frozen? ⟨gt1, 0, none⟩ = false := frozen_of_row _ _ 0 _ _ b10_3.out
                  have q1 : xt3.cell? ⟨gt1, 1, none⟩ = some (.int .i8 0) := cell_of_row _ _ 1 _ _ _ b10_3.out
                  have y1 : xt3.frozen? ⟨gt1, 1, none⟩ = false := frozen_of_row _ _ 1 _ _ b10_3.out
                  have q2 : xt3.cell? ⟨gt1, 2, none⟩ = some (.int .i8 0) := cell_of_row _ _ 2 _ _ _ b10_3.out
                  have y2 : xt3.frozen? ⟨gt1, 2, none⟩ = false := frozen_of_row _ _ 2 _ _ b10_3.out
                  have q3 : xt3.cell? ⟨gt1, 3, none⟩ = some (.int .i8 0) := cell_of_row _ _ 3 _ _ _ b10_3.out
                  have y3 : xt3.frozen? ⟨gt1, 3, none⟩ = false := frozen_of_row _ _ 3 _ _ b10_3.out
                  have q4 : xt3.cell? ⟨gt1, 4, none⟩ = some (.int .i8 0) := cell_of_row _ _ 4 _ _ _ b10_3.out
                  have y4 : xt3.frozen? ⟨gt1, 4, none⟩ = false := frozen_of_row _ _ 4 _ _ b10_3.out
                  have lz := blk_lt b10_3.out
                  go_simp
                  have K4 : Hid (Below W4.heap.size W4 (((((xt3.setCell ⟨gt1, 0, none⟩ (.int .i8 q.x)).setCell ⟨gt1, 1, none⟩ (.int .i8 q.y)).setCell ⟨gt1, 2, none⟩ (.int .i8 q.kind)).setCell ⟨gt1, 3, none⟩ (.int .i8 q.turn)).setCell ⟨gt1, 4, none⟩ (.int .i8 q.delay))) := Lib.hid (kSet (kSet (kSet (kSet (kSet K3.out lt1 _) lt1 _) lt1 _) lt1 _) lt1 _)
                  have b10_4 : Hid ((((((xt3.setCell ⟨gt1, 0, none⟩ (.int .i8 q.x)).setCell ⟨gt1, 1, none⟩ (.int .i8 q.y)).setCell ⟨gt1, 2, none⟩ (.int .i8 q.kind)).setCell ⟨gt1, 3, none⟩ (.int .i8 q.turn)).setCell ⟨gt1, 4, none⟩ (.int .i8 q.delay)).heap[gt1]? = some (.cells #[.int .i8 q.x, .int .i8 q.y, .int .i8 q.kind, .int .i8 q.turn, .int .i8 q.delay] 71 (0, 0))) := Lib.hid (blk_set_same' (blk_set_same' (blk_set_same' (blk_set_same' (blk_set_same' b10_3.out)))))
                  have b11_4 : Hid ((((((xt3.setCell ⟨gt1, 0, none⟩ (.int .i8 q.x)).setCell ⟨gt1, 1, none⟩ (.int .i8 q.y)).setCell ⟨gt1, 2, none⟩ (.int .i8 q.kind)).setCell ⟨gt1, 3, none⟩ (.int .i8 q.turn)).setCell ⟨gt1, 4, none⟩ (.int .i8 q.delay)).heap[gt2]? = some (.cells #[.int .i64 0, .int .i8 0, .int .i64 0] 73 (0, 0))) := Lib.hid (blk_set (blk_set (blk_set (blk_set (blk_set b11_3.out wb10_2.symm) wb10_2.symm) wb10_2.symm) wb10_2.symm) wb10_2.symm)
                  have fl4 : Hid (FRow (((((xt3.setCell ⟨gt1, 0, none⟩ (.int .i8 q.x)).setCell ⟨gt1, 1, none⟩ (.int .i8 q.y)).setCell ⟨gt1, 2, none⟩ (.int .i8 q.kind)).setCell ⟨gt1, 3, none⟩ (.int .i8 q.turn)).setCell ⟨gt1, 4, none⟩ (.int .i8 q.delay)) gf m F) := Lib.hid (FRow.far (FRow.far (FRow.far (FRow.far (FRow.far fl3.out zb10_3) zb10_3) zb10_3) zb10_3) zb10_3)
                  refine hK.out _ _ ⟨K4.out, fl4.out⟩ (fun _ => ?_)
                  clear hK K lz q0 y0 q1 y1 q2 y2 q3 y3 q4 y4
                  generalize (((((xt3.setCell ⟨gt1, 0, none⟩ (.int .i8 q.x)).setCell ⟨gt1, 1, none⟩ (.int .i8 q.y)).setCell ⟨gt1, 2, none⟩ (.int .i8 q.kind)).setCell ⟨gt1, 3, none⟩ (.int .i8 q.turn)).setCell ⟨gt1, 4, none⟩ (.int .i8 q.delay)) = xt4 at K4 b10_4 b11_4 fl4 ⊢
                  refine wpAnyH_ready (rs := [13]) (by kernel_rfl) (by simp) ?_
                  refine AllReadyH.cons rfl (fun K hK => ?_) AllReadyH.nil
                  · skip
                    have q0 : xt4.cell? ⟨gt2, 0, none⟩ = some (.int .i64 0) := cell_of_row _ _ 0 _ _ _ b11_4.out
                    have y0 : xt4.frozen? ⟨gt2, 0, none⟩ = false := frozen_of_row _ _ 0 _ _ b11_4.out
                    have q1 : xt4.cell? ⟨gt2, 1, none⟩ = some (.int .i8 0) := cell_of_row _ _ 1 _ _ _ b11_4.out
                    have y1 : xt4.frozen? ⟨gt2, 1, none⟩ = false := frozen_of_row _ _ 1 _ _ b11_4.out
                    have q2 : xt4.cell? ⟨gt2, 2, none⟩ = some (.int .i64 0) := cell_of_row _ _ 2 _ _ _ b11_4.out
                    have y2 : xt4.frozen? ⟨gt2, 2, none⟩ = false := frozen_of_row _ _ 2 _ _ b11_4.out
                    have lz := blk_lt b11_4.out
                    go_simp
                    have K5 : Hid (Below W4.heap.size W4 (((xt4.setCell ⟨gt2, 0, none⟩ (.int .i64 f.tick)).setCell ⟨gt2, 1, none⟩ (.int .i8 f.frm)).setCell ⟨gt2, 2, none⟩ (.int .i64 f.who))) := Lib.hid (kSet (kSet (kSet K4.out lt2 _) lt2 _) lt2 _)
                    have b11_5 : Hid ((((xt4.setCell ⟨gt2, 0, none⟩ (.int .i64 f.tick)).setCell ⟨gt2, 1, none⟩ (.int .i8 f.frm)).setCell ⟨gt2, 2, none⟩ (.int .i64 f.who)).heap[gt2]? = some (.cells #[.int .i64 f.tick, .int .i8 f.frm, .int .i64 f.who] 73 (0, 0))) := Lib.hid (blk_set_same' (blk_set_same' (blk_set_same' b11_4.out)))
                    have b10_5 : Hid ((((xt4.setCell ⟨gt2, 0, none⟩ (.int .i64 f.tick)).setCell ⟨gt2, 1, none⟩ (.int .i8 f.frm)).setCell ⟨gt2, 2, none⟩ (.int .i64 f.who)).heap[gt1]? = some (.cells #[.int .i8 q.x, .int .i8 q.y, .int .i8 q.kind, .int .i8 q.turn, .int .i8 q.delay] 71 (0, 0))) := Lib.hid (blk_set (blk_set (blk_set b10_4.out wb10_2) wb10_2) wb10_2)
                    have fl5 : Hid (FRow (((xt4.setCell ⟨gt2, 0, none⟩ (.int .i64 f.tick)).setCell ⟨gt2, 1, none⟩ (.int .i8 f.frm)).setCell ⟨gt2, 2, none⟩ (.int .i64 f.who)) gf m F) := Lib.hid (FRow.far (FRow.far (FRow.far fl4.out zb11_3) zb11_3) zb11_3)
                    refine hK.out _ _ ⟨K5.out, fl5.out⟩ (fun _ => ?_)
                    clear hK K lz q0 y0 q1 y1 q2 y2
                    generalize (((xt4.setCell ⟨gt2, 0, none⟩ (.int .i64 f.tick)).setCell ⟨gt2, 1, none⟩ (.int .i8 f.frm)).setCell ⟨gt2, 2, none⟩ (.int .i64 f.who)) = xt5 at K5 b10_5 b11_5 fl5 ⊢
                    refine wpAnyH_done (by kernel_rfl) ?_ _
                    refine ⟨rfl, ?_⟩
                    go_wp2_with fail
                    go_meet
                    exact ⟨gt1, gt2, rfl, rfl, b10_5, b11_5, K5⟩
          · skip
            go_simp
            obtain ⟨xt1, et1⟩ : ∃ z, xt0.alloc (.cells #[.int .i64 0, .int .i8 0, .int .i64 0] 73) = z := ⟨_, rfl⟩
            have kt1 : Below xt0.heap.size xt0 xt1 := by rw [← et1]; exact kAlloc (Below.refl _ _) _
            have bt1 : xt1.heap[xt0.heap.size]? = some (.cells #[.int .i64 0, .int .i8 0, .int .i64 0] 73 (0, 0)) := by rw [← et1]; exact heap_alloc_new _ _
            try rw [et1]
            obtain ⟨gt1, ft1⟩ : ∃ z, xt0.heap.size = z := ⟨_, rfl⟩
            have K1 := Lib.hid (kTrans K0.out kt1)
            have lt1 : W4.heap.size ≤ gt1 := by have := K0.out.size; omega
            rw [ft1] at bt1 ⊢
            have b11_1 := Lib.hid bt1
            refine hK.out _ _ K1.out (fun _ => ?_)
            clear hK K kt1 bt1 et1 ft1
            refine wpAnyH_ready (rs := [6, 10]) (by kernel_rfl) (by simp) ?_
            refine AllReadyH.cons rfl (fun K hK => ?_) (AllReadyH.cons rfl (fun K hK => ?_) AllReadyH.nil)
            · skip
              go_simp
              go_at_call 40
              refine (HR4.out _ K1.out).mono ?_
              rintro e xt2 ⟨gf, F, rfl, hfr2, hfk2, hgl2, hb2⟩
              have K2 := Lib.hid (kTrans K1.out hb2)
              have fl2 := Lib.hid hfr2
              have b11_2 := Lib.hid (blk_below b11_1.out hb2)
              have zb11_2 : gt1 ≠ gf := by have := blk_lt b11_1.out; omega
              refine hK.out _ _ K2.out (fun _ => ?_)
              clear hK K hb2 hfr2
              refine wpOp_monoC (T := fun W' => Below W4.heap.size W4 W' ∧ FRow W' gf m F) (fun _ h => h.1) _ _ _ _ ?_
              have hS_ : Below W4.heap.size W4 xt2 ∧ FRow xt2 gf m F := ⟨K2.out, fl2.out⟩
              refine wpAnyH_take (i := 8) (v := .pointer (some ⟨gf, k * 3, none⟩)) rfl (by kernel_rfl) (by kernel_rfl) (by kernel_rfl) (fun _ _ _ h => absurd h.1 (by simp)) (Or.inl ⟨by rfl, fun w7 hSw => ?_⟩) (by assumption) ?_
              · clear hSw
                go_simp
              try simp only [Act.put, List.setIfInBounds_toArray, List.set_cons_zero, List.set_cons_succ]
              refine wpAnyH_take (i := 9) (v := .agg #[.int .i64 f.tick, .int .i8 f.frm, .int .i64 f.who]) rfl (by kernel_rfl) (by kernel_rfl) (by kernel_rfl) (fun _ _ _ h => absurd h.1 (by simp)) (Or.inl ⟨by rfl, fun w7 hSw => ?_⟩) (by assumption) ?_
              · obtain ⟨q0, q1, q2⟩ := hSw.2.at_ k hkm
                rw [hfk2] at q0 q1 q2
                clear hSw
                go_simp
              try simp only [Act.put, List.setIfInBounds_toArray, List.set_cons_zero, List.set_cons_succ]
              clear hS_
              refine wpAnyH_ready (rs := [10]) (by kernel_rfl) (by simp) ?_
              refine AllReadyH.cons rfl (fun K hK => ?_) AllReadyH.nil
              · skip
                go_simp
                obtain ⟨xt3, et3⟩ : ∃ z, xt2.alloc (.cells #[.int .i8 0, .int .i8 0, .int .i8 0, .int .i8 0, .int .i8 0] 71) = z := ⟨_, rfl⟩
                have kt3 : Below xt2.heap.size xt2 xt3 := by rw [← et3]; exact kAlloc (Below.refl _ _) _
                have bt3 : xt3.heap[xt2.heap.size]? = some (.cells #[.int .i8 0, .int .i8 0, .int .i8 0, .int .i8 0, .int .i8 0] 71 (0, 0)) := by rw [← et3]; exact heap_alloc_new _ _
                try rw [et3]
                obtain ⟨gt3, ft3⟩ : ∃ z, xt2.heap.size = z := ⟨_, rfl⟩
                have K3 := Lib.hid (kTrans K2.out kt3)
                have lt3 : W4.heap.size ≤ gt3 := by have := K2.out.size; omega
                have b11_3 := Lib.hid (blk_below b11_2.out kt3)
                have wb11_3 : gt1 ≠ gt3 := by have := blk_lt b11_2.out; omega
                have fl3 := Lib.hid (fl2.out.below kt3)
                have zz3 : gt3 ≠ gf := by have := fl2.out.lt; omega
                rw [ft3] at bt3 ⊢
                have b10_3 := Lib.hid bt3
                refine hK.out _ _ ⟨K3.out, fl3.out⟩ (fun _ => ?_)
                clear hK K kt3 bt3 et3 ft3
                refine wpAnyH_ready (rs := [12]) (by kernel_rfl) (by simp) ?_
                refine AllReadyH.cons rfl (fun K hK => ?_) AllReadyH.nil
                · skip
                  have q0 : xt3.cell? ⟨gt3, 0, none⟩ = some (.int .i8 0) := cell_of_row _ _ 0 _ _ _ b10_3.out
                  have y0 : xt3.frozen? ⟨gt3, 0, none⟩ = false := frozen_of_row _ _ 0 _ _ b10_3.out
                  have q1 : xt3.cell? ⟨gt3, 1, none⟩ = some (.int .i8 0) := cell_of_row _ _ 1 _ _ _ b10_3.out
                  have y1 : xt3.frozen? ⟨gt3, 1, none⟩ = false := frozen_of_row _ _ 1 _ _ b10_3.out
                  have q2 : xt3.cell? ⟨gt3, 2, none⟩ = some (.int .i8 0) := cell_of_row _ _ 2 _ _ _ b10_3.out
                  have y2 : xt3.frozen? ⟨gt3, 2, none⟩ = false := frozen_of_row _ _ 2 _ _ b10_3.out
                  have q3 : xt3.cell? ⟨gt3, 3, none⟩ = some (.int .i8 0) := cell_of_row _ _ 3 _ _ _ b10_3.out
                  have y3 : xt3.frozen? ⟨gt3, 3, none⟩ = false := frozen_of_row _ _ 3 _ _ b10_3.out
                  have q4 : xt3.cell? ⟨gt3, 4, none⟩ = some (.int .i8 0) := cell_of_row _ _ 4 _ _ _ b10_3.out
                  have y4 : xt3.frozen? ⟨gt3, 4, none⟩ = false := frozen_of_row _ _ 4 _ _ b10_3.out
                  have lz := blk_lt b10_3.out
                  go_simp
                  have K4 : Hid (Below W4.heap.size W4 (((((xt3.setCell ⟨gt3, 0, none⟩ (.int .i8 q.x)).setCell ⟨gt3, 1, none⟩ (.int .i8 q.y)).setCell ⟨gt3, 2, none⟩ (.int .i8 q.kind)).setCell ⟨gt3, 3, none⟩ (.int .i8 q.turn)).setCell ⟨gt3, 4, none⟩ (.int .i8 q.delay))) := Lib.hid (kSet (kSet (kSet (kSet (kSet K3.out lt3 _) lt3 _) lt3 _) lt3 _) lt3 _)
                  have b10_4 : Hid ((((((xt3.setCell ⟨gt3, 0, none⟩ (.int .i8 q.x)).setCell ⟨gt3, 1, none⟩ (.int .i8 q.y)).setCell ⟨gt3, 2, none⟩ (.int .i8 q.kind)).setCell ⟨gt3, 3, none⟩ (.int .i8 q.turn)).setCell ⟨gt3, 4, none⟩ (.int .i8 q.delay)).heap[gt3]? = some (.cells #[.int .i8 q.x, .int .i8 q.y, .int .i8 q.kind, .int .i8 q.turn, .int .i8 q.delay] 71 (0, 0))) := Lib.hid (blk_set_same' (blk_set_same' (blk_set_same' (blk_set_same' (blk_set_same' b10_3.out)))))
                  have b11_4 : Hid ((((((xt3.setCell ⟨gt3, 0, none⟩ (.int .i8 q.x)).setCell ⟨gt3, 1, none⟩ (.int .i8 q.y)).setCell ⟨gt3, 2, none⟩ (.int .i8 q.kind)).setCell ⟨gt3, 3, none⟩ (.int .i8 q.turn)).setCell ⟨gt3, 4, none⟩ (.int .i8 q.delay)).heap[gt1]? = some (.cells #[.int .i64 0, .int .i8 0, .int .i64 0] 73 (0, 0))) := Lib.hid (blk_set (blk_set (blk_set (blk_set (blk_set b11_3.out wb11_3) wb11_3) wb11_3) wb11_3) wb11_3)
                  have fl4 : Hid (FRow (((((xt3.setCell ⟨gt3, 0, none⟩ (.int .i8 q.x)).setCell ⟨gt3, 1, none⟩ (.int .i8 q.y)).setCell ⟨gt3, 2, none⟩ (.int .i8 q.kind)).setCell ⟨gt3, 3, none⟩ (.int .i8 q.turn)).setCell ⟨gt3, 4, none⟩ (.int .i8 q.delay)) gf m F) := Lib.hid (FRow.far (FRow.far (FRow.far (FRow.far (FRow.far fl3.out zz3) zz3) zz3) zz3) zz3)
                  refine hK.out _ _ ⟨K4.out, fl4.out⟩ (fun _ => ?_)
                  clear hK K lz q0 y0 q1 y1 q2 y2 q3 y3 q4 y4
                  generalize (((((xt3.setCell ⟨gt3, 0, none⟩ (.int .i8 q.x)).setCell ⟨gt3, 1, none⟩ (.int .i8 q.y)).setCell ⟨gt3, 2, none⟩ (.int .i8 q.kind)).setCell ⟨gt3, 3, none⟩ (.int .i8 q.turn)).setCell ⟨gt3, 4, none⟩ (.int .i8 q.delay)) = xt4 at K4 b10_4 b11_4 fl4 ⊢
                  refine wpAnyH_ready (rs := [13]) (by kernel_rfl) (by simp) ?_
                  refine AllReadyH.cons rfl (fun K hK => ?_) AllReadyH.nil
                  · skip
                    have q0 : xt4.cell? ⟨gt1, 0, none⟩ = some (.int .i64 0) := cell_of_row _ _ 0 _ _ _ b11_4.out
                    have y0 : xt4.frozen? ⟨gt1, 0, none⟩ = false := frozen_of_row _ _ 0 _ _ b11_4.out
                    have q1 : xt4.cell? ⟨gt1, 1, none⟩ = some (.int .i8 0) := cell_of_row _ _ 1 _ _ _ b11_4.out
                    have y1 : xt4.frozen? ⟨gt1, 1, none⟩ = false := frozen_of_row _ _ 1 _ _ b11_4.out
                    have q2 : xt4.cell? ⟨gt1, 2, none⟩ = some (.int .i64 0) := cell_of_row _ _ 2 _ _ _ b11_4.out
                    have y2 : xt4.frozen? ⟨gt1, 2, none⟩ = false := frozen_of_row _ _ 2 _ _ b11_4.out
                    have lz := blk_lt b11_4.out
                    go_simp
                    have K5 : Hid (Below W4.heap.size W4 (((xt4.setCell ⟨gt1, 0, none⟩ (.int .i64 f.tick)).setCell ⟨gt1, 1, none⟩ (.int .i8 f.frm)).setCell ⟨gt1, 2, none⟩ (.int .i64 f.who))) := Lib.hid (kSet (kSet (kSet K4.out lt1 _) lt1 _) lt1 _)
                    have b11_5 : Hid ((((xt4.setCell ⟨gt1, 0, none⟩ (.int .i64 f.tick)).setCell ⟨gt1, 1, none⟩ (.int .i8 f.frm)).setCell ⟨gt1, 2, none⟩ (.int .i64 f.who)).heap[gt1]? = some (.cells #[.int .i64 f.tick, .int .i8 f.frm, .int .i64 f.who] 73 (0, 0))) := Lib.hid (blk_set_same' (blk_set_same' (blk_set_same' b11_4.out)))
                    have b10_5 : Hid ((((xt4.setCell ⟨gt1, 0, none⟩ (.int .i64 f.tick)).setCell ⟨gt1, 1, none⟩ (.int .i8 f.frm)).setCell ⟨gt1, 2, none⟩ (.int .i64 f.who)).heap[gt3]? = some (.cells #[.int .i8 q.x, .int .i8 q.y, .int .i8 q.kind, .int .i8 q.turn, .int .i8 q.delay] 71 (0, 0))) := Lib.hid (blk_set (blk_set (blk_set b10_4.out wb11_3.symm) wb11_3.symm) wb11_3.symm)
                    have fl5 : Hid (FRow (((xt4.setCell ⟨gt1, 0, none⟩ (.int .i64 f.tick)).setCell ⟨gt1, 1, none⟩ (.int .i8 f.frm)).setCell ⟨gt1, 2, none⟩ (.int .i64 f.who)) gf m F) := Lib.hid (FRow.far (FRow.far (FRow.far fl4.out zb11_2) zb11_2) zb11_2)
                    refine hK.out _ _ ⟨K5.out, fl5.out⟩ (fun _ => ?_)
                    clear hK K lz q0 y0 q1 y1 q2 y2
                    generalize (((xt4.setCell ⟨gt1, 0, none⟩ (.int .i64 f.tick)).setCell ⟨gt1, 1, none⟩ (.int .i8 f.frm)).setCell ⟨gt1, 2, none⟩ (.int .i64 f.who)) = xt5 at K5 b10_5 b11_5 fl5 ⊢
                    refine wpAnyH_done (by kernel_rfl) ?_ _
                    refine ⟨rfl, ?_⟩
                    go_wp2_with fail
                    go_meet
                    exact ⟨gt3, gt1, rfl, rfl, b10_5, b11_5, K5⟩
            · skip
              go_simp
              obtain ⟨xt2, et2⟩ : ∃ z, xt1.alloc (.cells #[.int .i8 0, .int .i8 0, .int .i8 0, .int .i8 0, .int .i8 0] 71) = z := ⟨_, rfl⟩
              have kt2 : Below xt1.heap.size xt1 xt2 := by rw [← et2]; exact kAlloc (Below.refl _ _) _
              have bt2 : xt2.heap[xt1.heap.size]? = some (.cells #[.int .i8 0, .int .i8 0, .int .i8 0, .int .i8 0, .int .i8 0] 71 (0, 0)) := by rw [← et2]; exact heap_alloc_new _ _
              try rw [et2]
              obtain ⟨gt2, ft2⟩ : ∃ z, xt1.heap.size = z := ⟨_, rfl⟩
              have K2 := Lib.hid (kTrans K1.out kt2)
              have lt2 : W4.heap.size ≤ gt2 := by have := K1.out.size; omega
              have b11_2 := Lib.hid (blk_below b11_1.out kt2)
              have wb11_2 : gt1 ≠ gt2 := by have := blk_lt b11_1.out; omega
              rw [ft2] at bt2 ⊢
              have b10_2 := Lib.hid bt2
              refine hK.out _ _ K2.out (fun _ => ?_)
              clear hK K kt2 bt2 et2 ft2
              refine wpAnyH_ready (rs := [6]) (by kernel_rfl) (by simp) ?_
              refine AllReadyH.cons rfl (fun K hK => ?_) AllReadyH.nil
              · skip
                go_simp
                go_at_call 40
                refine (HR4.out _ K2.out).mono ?_
                rintro e xt3 ⟨gf, F, rfl, hfr3, hfk3, hgl3, hb3⟩
                have K3 := Lib.hid (kTrans K2.out hb3)
                have fl3 := Lib.hid hfr3
                have b10_3 := Lib.hid (blk_below b10_2.out hb3)
                have zb10_3 : gt2 ≠ gf := by have := blk_lt b10_2.out; omega
                have b11_3 := Lib.hid (blk_below b11_2.out hb3)
                have zb11_3 : gt1 ≠ gf := by have := blk_lt b11_2.out; omega
                refine hK.out _ _ K3.out (fun _ => ?_)
                clear hK K hb3 hfr3
                refine wpOp_monoC (T := fun W' => Below W4.heap.size W4 W' ∧ FRow W' gf m F) (fun _ h => h.1) _ _ _ _ ?_
                have hS_ : Below W4.heap.size W4 xt3 ∧ FRow xt3 gf m F := ⟨K3.out, fl3.out⟩
                refine wpAnyH_take (i := 8) (v := .pointer (some ⟨gf, k * 3, none⟩)) rfl (by kernel_rfl) (by kernel_rfl) (by kernel_rfl) (fun _ _ _ h => absurd h.1 (by simp)) (Or.inl ⟨by rfl, fun w7 hSw => ?_⟩) (by assumption) ?_
                · clear hSw
                  go_simp
                try simp only [Act.put, List.setIfInBounds_toArray, List.set_cons_zero, List.set_cons_succ]
                refine wpAnyH_take (i := 9) (v := .agg #[.int .i64 f.tick, .int .i8 f.frm, .int .i64 f.who]) rfl (by kernel_rfl) (by kernel_rfl) (by kernel_rfl) (fun _ _ _ h => absurd h.1 (by simp)) (Or.inl ⟨by rfl, fun w7 hSw => ?_⟩) (by assumption) ?_
                · obtain ⟨q0, q1, q2⟩ := hSw.2.at_ k hkm
                  rw [hfk3] at q0 q1 q2
                  clear hSw
                  go_simp
                try simp only [Act.put, List.setIfInBounds_toArray, List.set_cons_zero, List.set_cons_succ]
                clear hS_
                refine wpAnyH_ready (rs := [12]) (by kernel_rfl) (by simp) ?_
                refine AllReadyH.cons rfl (fun K hK => ?_) AllReadyH.nil
                · skip
                  have q0 : xt3.cell? ⟨gt2, 0, none⟩ = some (.int .i8 0) := cell_of_row _ _ 0 _ _ _ b10_3.out
                  have y0 : xt3.frozen? ⟨gt2, 0, none⟩ = false := frozen_of_row _ _ 0 _ _ b10_3.out
                  have q1 : xt3.cell? ⟨gt2, 1, none⟩ = some (.int .i8 0) := cell_of_row _ _ 1 _ _ _ b10_3.out
                  have y1 : xt3.frozen? ⟨gt2, 1, none⟩ = false := frozen_of_row _ _ 1 _ _ b10_3.out
                  have q2 : xt3.cell? ⟨gt2, 2, none⟩ = some (.int .i8 0) := cell_of_row _ _ 2 _ _ _ b10_3.out
                  have y2 : xt3.frozen? ⟨gt2, 2, none⟩ = false := frozen_of_row _ _ 2 _ _ b10_3.out
                  have q3 : xt3.cell? ⟨gt2, 3, none⟩ = some (.int .i8 0) := cell_of_row _ _ 3 _ _ _ b10_3.out
                  have y3 : xt3.frozen? ⟨gt2, 3, none⟩ = false := frozen_of_row _ _ 3 _ _ b10_3.out
                  have q4 : xt3.cell? ⟨gt2, 4, none⟩ = some (.int .i8 0) := cell_of_row _ _ 4 _ _ _ b10_3.out
                  have y4 : xt3.frozen? ⟨gt2, 4, none⟩ = false := frozen_of_row _ _ 4 _ _ b10_3.out
                  have lz := blk_lt b10_3.out
                  go_simp
                  have K4 : Hid (Below W4.heap.size W4 (((((xt3.setCell ⟨gt2, 0, none⟩ (.int .i8 q.x)).setCell ⟨gt2, 1, none⟩ (.int .i8 q.y)).setCell ⟨gt2, 2, none⟩ (.int .i8 q.kind)).setCell ⟨gt2, 3, none⟩ (.int .i8 q.turn)).setCell ⟨gt2, 4, none⟩ (.int .i8 q.delay))) := Lib.hid (kSet (kSet (kSet (kSet (kSet K3.out lt2 _) lt2 _) lt2 _) lt2 _) lt2 _)
                  have b10_4 : Hid ((((((xt3.setCell ⟨gt2, 0, none⟩ (.int .i8 q.x)).setCell ⟨gt2, 1, none⟩ (.int .i8 q.y)).setCell ⟨gt2, 2, none⟩ (.int .i8 q.kind)).setCell ⟨gt2, 3, none⟩ (.int .i8 q.turn)).setCell ⟨gt2, 4, none⟩ (.int .i8 q.delay)).heap[gt2]? = some (.cells #[.int .i8 q.x, .int .i8 q.y, .int .i8 q.kind, .int .i8 q.turn, .int .i8 q.delay] 71 (0, 0))) := Lib.hid (blk_set_same' (blk_set_same' (blk_set_same' (blk_set_same' (blk_set_same' b10_3.out)))))
                  have b11_4 : Hid ((((((xt3.setCell ⟨gt2, 0, none⟩ (.int .i8 q.x)).setCell ⟨gt2, 1, none⟩ (.int .i8 q.y)).setCell ⟨gt2, 2, none⟩ (.int .i8 q.kind)).setCell ⟨gt2, 3, none⟩ (.int .i8 q.turn)).setCell ⟨gt2, 4, none⟩ (.int .i8 q.delay)).heap[gt1]? = some (.cells #[.int .i64 0, .int .i8 0, .int .i64 0] 73 (0, 0))) := Lib.hid (blk_set (blk_set (blk_set (blk_set (blk_set b11_3.out wb11_2) wb11_2) wb11_2) wb11_2) wb11_2)
                  have fl4 : Hid (FRow (((((xt3.setCell ⟨gt2, 0, none⟩ (.int .i8 q.x)).setCell ⟨gt2, 1, none⟩ (.int .i8 q.y)).setCell ⟨gt2, 2, none⟩ (.int .i8 q.kind)).setCell ⟨gt2, 3, none⟩ (.int .i8 q.turn)).setCell ⟨gt2, 4, none⟩ (.int .i8 q.delay)) gf m F) := Lib.hid (FRow.far (FRow.far (FRow.far (FRow.far (FRow.far fl3.out zb10_3) zb10_3) zb10_3) zb10_3) zb10_3)
                  refine hK.out _ _ ⟨K4.out, fl4.out⟩ (fun _ => ?_)
                  clear hK K lz q0 y0 q1 y1 q2 y2 q3 y3 q4 y4
                  generalize (((((xt3.setCell ⟨gt2, 0, none⟩ (.int .i8 q.x)).setCell ⟨gt2, 1, none⟩ (.int .i8 q.y)).setCell ⟨gt2, 2, none⟩ (.int .i8 q.kind)).setCell ⟨gt2, 3, none⟩ (.int .i8 q.turn)).setCell ⟨gt2, 4, none⟩ (.int .i8 q.delay)) = xt4 at K4 b10_4 b11_4 fl4 ⊢
                  refine wpAnyH_ready (rs := [13]) (by kernel_rfl) (by simp) ?_
                  refine AllReadyH.cons rfl (fun K hK => ?_) AllReadyH.nil
                  · skip
                    have q0 : xt4.cell? ⟨gt1, 0, none⟩ = some (.int .i64 0) := cell_of_row _ _ 0 _ _ _ b11_4.out
                    have y0 : xt4.frozen? ⟨gt1, 0, none⟩ = false := frozen_of_row _ _ 0 _ _ b11_4.out
                    have q1 : xt4.cell? ⟨gt1, 1, none⟩ = some (.int .i8 0) := cell_of_row _ _ 1 _ _ _ b11_4.out
                    have y1 : xt4.frozen? ⟨gt1, 1, none⟩ = false := frozen_of_row _ _ 1 _ _ b11_4.out
                    have q2 : xt4.cell? ⟨gt1, 2, none⟩ = some (.int .i64 0) := cell_of_row _ _ 2 _ _ _ b11_4.out
                    have y2 : xt4.frozen? ⟨gt1, 2, none⟩ = false := frozen_of_row _ _ 2 _ _ b11_4.out
                    have lz := blk_lt b11_4.out
                    go_simp
                    have K5 : Hid (Below W4.heap.size W4 (((xt4.setCell ⟨gt1, 0, none⟩ (.int .i64 f.tick)).setCell ⟨gt1, 1, none⟩ (.int .i8 f.frm)).setCell ⟨gt1, 2, none⟩ (.int .i64 f.who))) := Lib.hid (kSet (kSet (kSet K4.out lt1 _) lt1 _) lt1 _)
                    have b11_5 : Hid ((((xt4.setCell ⟨gt1, 0, none⟩ (.int .i64 f.tick)).setCell ⟨gt1, 1, none⟩ (.int .i8 f.frm)).setCell ⟨gt1, 2, none⟩ (.int .i64 f.who)).heap[gt1]? = some (.cells #[.int .i64 f.tick, .int .i8 f.frm, .int .i64 f.who] 73 (0, 0))) := Lib.hid (blk_set_same' (blk_set_same' (blk_set_same' b11_4.out)))
                    have b10_5 : Hid ((((xt4.setCell ⟨gt1, 0, none⟩ (.int .i64 f.tick)).setCell ⟨gt1, 1, none⟩ (.int .i8 f.frm)).setCell ⟨gt1, 2, none⟩ (.int .i64 f.who)).heap[gt2]? = some (.cells #[.int .i8 q.x, .int .i8 q.y, .int .i8 q.kind, .int .i8 q.turn, .int .i8 q.delay] 71 (0, 0))) := Lib.hid (blk_set (blk_set (blk_set b10_4.out wb11_2.symm) wb11_2.symm) wb11_2.symm)
                    have fl5 : Hid (FRow (((xt4.setCell ⟨gt1, 0, none⟩ (.int .i64 f.tick)).setCell ⟨gt1, 1, none⟩ (.int .i8 f.frm)).setCell ⟨gt1, 2, none⟩ (.int .i64 f.who)) gf m F) := Lib.hid (FRow.far (FRow.far (FRow.far fl4.out zb11_3) zb11_3) zb11_3)
                    refine hK.out _ _ ⟨K5.out, fl5.out⟩ (fun _ => ?_)
                    clear hK K lz q0 y0 q1 y1 q2 y2
                    generalize (((xt4.setCell ⟨gt1, 0, none⟩ (.int .i64 f.tick)).setCell ⟨gt1, 1, none⟩ (.int .i8 f.frm)).setCell ⟨gt1, 2, none⟩ (.int .i64 f.who)) = xt5 at K5 b10_5 b11_5 fl5 ⊢
                    refine wpAnyH_done (by kernel_rfl) ?_ _
                    refine ⟨rfl, ?_⟩
                    go_wp2_with fail
                    go_meet
                    exact ⟨gt2, gt1, rfl, rfl, b10_5, b11_5, K5⟩
        case rest =>
          obtain ⟨g10, g11, rfl, rfl, b10, b11, HK5⟩ := hcut
          rename World => wc
          have l10 := blk_lt b10.out
          have l11 := blk_lt b11.out
          have HK6 := Lib.hid (show Below X w wc from kTr HK4.out HK5.out (by omega))
          have nc := HK5.out.size
          have v0 : wc.cell? ⟨g11, 0, none⟩ = some (.int .i64 f.tick) := cell_of_row _ _ 0 _ _ _ b11.out
          have v1 : wc.cell? ⟨g11, 1, none⟩ = some (.int .i8 f.frm) := cell_of_row _ _ 1 _ _ _ b11.out
          have v2 : wc.cell? ⟨g11, 2, none⟩ = some (.int .i64 f.who) := cell_of_row _ _ 2 _ _ _ b11.out
          have u0 : wc.cell? ⟨g10, 0, none⟩ = some (.int .i8 q.x) := cell_of_row _ _ 0 _ _ _ b10.out
          have u1 : wc.cell? ⟨g10, 1, none⟩ = some (.int .i8 q.y) := cell_of_row _ _ 1 _ _ _ b10.out
          have u2 : wc.cell? ⟨g10, 2, none⟩ = some (.int .i8 q.kind) := cell_of_row _ _ 2 _ _ _ b10.out
          have u3 : wc.cell? ⟨g10, 3, none⟩ = some (.int .i8 q.turn) := cell_of_row _ _ 3 _ _ _ b10.out
          have u4 : wc.cell? ⟨g10, 4, none⟩ = some (.int .i8 q.delay) := cell_of_row _ _ 4 _ _ _ b10.out
          have wo : wc.cell? ⟨X + 1, 5, none⟩ = some (.int .i8 p.ot) := cell_of_row _ _ 5 _ _ _ (blk_below CS4.out.wy HK5.out)
          have lYc : X + 1 < wc.heap.size := by omega
          obtain ⟨⟨y0, y1, y2⟩, hz⟩ := HSTA.out wc HK6.out
          simp only [stay, Nat.zero_add] at y0 y1 y2
          have hgm : Tryd.prog.eqGuardType Tryd.prog.depth 73 = false := by kernel_rfl
          have he := Fl_eq f stay
          by_cases hneg : f.tick < 0
          · have hQ := HQ3.out
            obtain ⟨rfl, rfl⟩ : (0 : Int) = T ∧ (6 : Int) = C := by unfold cpB at hQ; rw [if_neg (fun h => by omega)] at hQ; exact ⟨congrArg Prod.fst hQ, congrArg Prod.snd hQ⟩
            obtain rfl := Hfs.out hneg
            rw [decide_eq_true rfl] at he
            simp only [stay] at he v0 v1 v2
            clear hQ HQ3 Hff Hfs hneg
            go_wp2_with fail
            refine wp_region_class (fun w' => Below wc.heap.size wc w') (by kernel_rfl) (by kernel_rfl) (Below.drew (Below.refl _ _)) ?_
            repeat (first
              | go_big_quiet_skip
              | (go_big_quiet_want; go_big_quiet_op; go_big_quiet_on)
              | (refine wpQuiet_step (fun K hK => ?_)
                 go_simp
                 refine hK _ ?_
                 clear hK K)
              | (refine wpQuiet_step (fun K hK => ?_)
                 go_simp
                 apply Exists.intro
                 refine ⟨fun w1 hw1 => ?_, hK _ ?_⟩
                 · first
                   | exact rfl
                   | (have n0 := (hw1.cell (p := ⟨g11, 0, none⟩) l11).trans v0
                      have n1 := (hw1.cell (p := ⟨g11, 1, none⟩) l11).trans v1
                      have n2 := (hw1.cell (p := ⟨g11, 2, none⟩) l11).trans v2
                      have n3 := (hw1.cell (p := ⟨g10, 0, none⟩) l10).trans u0
                      have n4 := (hw1.cell (p := ⟨g10, 1, none⟩) l10).trans u1
                      have n5 := (hw1.cell (p := ⟨g10, 2, none⟩) l10).trans u2
                      have n6 := (hw1.cell (p := ⟨g10, 3, none⟩) l10).trans u3
                      have n7 := (hw1.cell (p := ⟨g10, 4, none⟩) l10).trans u4
                      have n8 := (hw1.cell (p := ⟨X + 1, 5, none⟩) lYc).trans wo
                      have m0 := (hw1.cell (p := ⟨0, 0, none⟩) hz).trans y0
                      have m1 := (hw1.cell (p := ⟨0, 1, none⟩) hz).trans y1
                      have m2 := (hw1.cell (p := ⟨0, 2, none⟩) hz).trans y2
                      go_simp
                      exact rfl)
                 clear hK K))
            refine wpQuiet_nil ?_
            intro wd_ bd_
            go_wp2
            go_ret2
            exact ⟨rfl, by rw [HX.out]; exact kTr HK6.out bd_ (by omega)⟩
          · obtain ⟨hf1_, hf2_, hf3_⟩ := Hff.out (by omega)
            have hne : f ≠ stay := fun h => by rw [h] at hneg; exact hneg (by decide)
            rw [decide_eq_false hne] at he
            simp only [stay] at he
            have HRE := Lib.hid (fun W => reactionOf_any q f.frm W (by omega) (by omega) (by omega))
            obtain ⟨on, hon⟩ : ∃ on : Nat, p.ot = on := ⟨p.ot.toNat, by omega⟩
            have hon4 : on < 4 := by omega
            have hfd := reac_1
            have hix := ixb (fun s => rxH q.kind q.turn f.frm s) on hon4
            obtain ⟨g, hg⟩ : ∃ g, rxH q.kind q.turn f.frm on = g := ⟨_, rfl⟩
            simp only [hg] at hix
            rw [hon] at wo
            have hQ := HQ3.out
            unfold cpB at hQ
            rw [hon, hg] at hQ
            clear HQ3 Hff Hfs hne
            cases g with
            | false =>
              obtain ⟨rfl, rfl⟩ : (0 : Int) = T ∧ (6 : Int) = C := by rw [if_neg (fun h => by cases h.2)] at hQ; exact ⟨congrArg Prod.fst hQ, congrArg Prod.snd hQ⟩
              clear hQ hg hon
              go_wp2_with fail
              refine wp_region_class (fun w' => Below wc.heap.size wc w') (by kernel_rfl) (by kernel_rfl) (Below.drew (Below.refl _ _)) ?_
              repeat (first
                | go_big_quiet_skip
                | (go_big_quiet_want; go_big_quiet_op; go_big_quiet_on)
                | (refine wpQuiet_step (fun K hK => ?_)
                   go_simp
                   refine hK _ ?_
                   clear hK K)
                | (refine wpQuiet_step (fun K hK => ?_)
                   go_simp
                   apply Exists.intro
                   refine ⟨fun w1 hw1 => ?_, hK _ ?_⟩
                   · first
                     | exact rfl
                     | (go_at_call 41
                        (with_reducible refine (HRE.out w1).mono ?_)
                        exact fun e w2 h => ⟨h.1, kTrans hw1 h.2⟩)
                     | (have n0 := (hw1.cell (p := ⟨g11, 0, none⟩) l11).trans v0
                        have n1 := (hw1.cell (p := ⟨g11, 1, none⟩) l11).trans v1
                        have n2 := (hw1.cell (p := ⟨g11, 2, none⟩) l11).trans v2
                        have n3 := (hw1.cell (p := ⟨g10, 0, none⟩) l10).trans u0
                        have n4 := (hw1.cell (p := ⟨g10, 1, none⟩) l10).trans u1
                        have n5 := (hw1.cell (p := ⟨g10, 2, none⟩) l10).trans u2
                        have n6 := (hw1.cell (p := ⟨g10, 3, none⟩) l10).trans u3
                        have n7 := (hw1.cell (p := ⟨g10, 4, none⟩) l10).trans u4
                        have n8 := (hw1.cell (p := ⟨X + 1, 5, none⟩) lYc).trans wo
                        have m0 := (hw1.cell (p := ⟨0, 0, none⟩) hz).trans y0
                        have m1 := (hw1.cell (p := ⟨0, 1, none⟩) hz).trans y1
                        have m2 := (hw1.cell (p := ⟨0, 2, none⟩) hz).trans y2
                        go_simp
                        exact rfl)
                   clear hK K))
              refine wpQuiet_nil ?_
              intro wd_ bd_
              go_wp2
              go_ret2
              exact ⟨rfl, by rw [HX.out]; exact kTr HK6.out bd_ (by omega)⟩
            | true =>
              obtain ⟨rfl, rfl⟩ : f.tick + q.delay = T ∧ (0 : Int) = C := by rw [if_pos ⟨by omega, rfl⟩] at hQ; exact ⟨congrArg Prod.fst hQ, congrArg Prod.snd hQ⟩
              clear hQ hg hon
              have wdl : IntKind.i64.wrap q.delay = q.delay := IntWalk.i64_in _ (by omega)
              have wdt : IntKind.i64.wrap (f.tick + q.delay) = f.tick + q.delay := IntWalk.i64_in _ (by omega)
              have wdu : wrap64 (f.tick + q.delay) = f.tick + q.delay := wr64c (by omega)
              go_wp2_with fail
              refine wp_region_class (fun w' => Below wc.heap.size wc w') (by kernel_rfl) (by kernel_rfl) (Below.drew (Below.refl _ _)) ?_
              repeat (first
                | go_big_quiet_skip
                | (go_big_quiet_want; go_big_quiet_op; go_big_quiet_on)
                | (refine wpQuiet_step (fun K hK => ?_)
                   go_simp
                   refine hK _ ?_
                   clear hK K)
                | (refine wpQuiet_step (fun K hK => ?_)
                   go_simp
                   apply Exists.intro
                   refine ⟨fun w1 hw1 => ?_, hK _ ?_⟩
                   · first
                     | exact rfl
                     | (go_at_call 41
                        (with_reducible refine (HRE.out w1).mono ?_)
                        exact fun e w2 h => ⟨h.1, kTrans hw1 h.2⟩)
                     | (have n0 := (hw1.cell (p := ⟨g11, 0, none⟩) l11).trans v0
                        have n1 := (hw1.cell (p := ⟨g11, 1, none⟩) l11).trans v1
                        have n2 := (hw1.cell (p := ⟨g11, 2, none⟩) l11).trans v2
                        have n3 := (hw1.cell (p := ⟨g10, 0, none⟩) l10).trans u0
                        have n4 := (hw1.cell (p := ⟨g10, 1, none⟩) l10).trans u1
                        have n5 := (hw1.cell (p := ⟨g10, 2, none⟩) l10).trans u2
                        have n6 := (hw1.cell (p := ⟨g10, 3, none⟩) l10).trans u3
                        have n7 := (hw1.cell (p := ⟨g10, 4, none⟩) l10).trans u4
                        have n8 := (hw1.cell (p := ⟨X + 1, 5, none⟩) lYc).trans wo
                        have m0 := (hw1.cell (p := ⟨0, 0, none⟩) hz).trans y0
                        have m1 := (hw1.cell (p := ⟨0, 1, none⟩) hz).trans y1
                        have m2 := (hw1.cell (p := ⟨0, 2, none⟩) hz).trans y2
                        go_simp
                        exact rfl)
                   clear hK K))
              refine wpQuiet_nil ?_
              intro wd_ bd_
              have v0d := (bd_.cell (p := ⟨g11, 0, none⟩) l11).trans v0
              have u4d := (bd_.cell (p := ⟨g10, 4, none⟩) l10).trans u4
              go_wp2
              go_ret2
              exact ⟨rfl, by rw [HX.out]; exact kTr HK6.out bd_ (by omega)⟩
end Go.Proofs.YtflkfkbdgekpkaaDoor
