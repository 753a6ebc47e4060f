/- Several texts in one: Rn, Rq, St. -/
import Derived.Test.YtflkfkbdgekpkaaDoorRu
import Derived.Test.YtflkfkbdgekpkaaDoorG7
import Derived.Test.YtflkfkbdgekpkaaDoorG8
import Derived.Test.YtflkfkbdgekpkaaDoorRk
import Derived.Test.YtflkfkbdgekpkaaDoorTie
import Derived.Test.YtflkfkbdgekpkaaDoorCards
import Derived.ProofKit
import Derived.LaidMore
import Derived.OpenShut
import Derived.OpenVars
import Derived.Deep.Strs
import Derived.SevenTiedAt
/- RunBoard: the one solution of a board and pushes; the program. -/
namespace Go.Proofs.YtflkfkbdgekpkaaDoor
open Go.ChangeShapes Go.WideShapes Go.ChangeAt Go.RowKit Go.Shelf
set_option linter.unusedVariables false

theorem RunI.ends {lb : List Pc} {l : List Pu} {m : Nat} (hm : lb.length = m) (hmm : m ≤ 200) (hok : ∀ q ∈ lb, q.ok = true) (hpl : ∀ q ∈ l, q.plain = true) : ∀ (s : Nat) (Q : List Ht) (F : Nat → Fl), standing F m = s → RunI lb l m 0 F Q → ∃ H, Sol (gameL lb l) H ∧ FFine m H := by
  intro s
  induction s using Nat.strongRecOn with
  | _ s ih =>
    intro Q
    induction Q with
    | nil => intro F _ h; exact ⟨F, h.inv.sol, h.falls⟩
    | cons x Q iq =>
      intro F hs h
      by_cases hx : (F x.1).tick < 0
      · obtain ⟨h1, h2⟩ := RunI.new (k := x.1) (f := x.2) hm hmm hok hpl h hx
        exact ih (standing (set_ F x.1 x.2) m) (by omega) _ _ rfl h1
      · exact iq F hs (RunI.old hm h (by omega))
/-- 'lr' is how the pieces fall, if the board and the pushes are valid ('R') -/
def RunsTo (R : Bool) (lb : List Pc) (l : List Pu) (lr : List Fl) : Prop :=
  (R = false → lr = []) ∧ (R = true → lr.length = lb.length ∧ Sol (gameL lb l) (fun k => lr.getD k stay))
theorem wf64' {n : Int} (h : -9223372036854775808 ≤ n ∧ n ≤ 9223372036854775807) : (Lit.int .i64 n).wf = true := by
  simp [Lit.wf, IntKind.min, IntKind.max, IntKind.signed, IntKind.bits]; omega
theorem wf8' {n : Int} (h : -128 ≤ n ∧ n ≤ 127) : (Lit.int .i8 n).wf = true := by
  simp [Lit.wf, IntKind.min, IntKind.max, IntKind.signed, IntKind.bits]; omega
theorem allOk {wd hi : Int} {l : List Pc} (h : boardOk wd hi l = true) : ∀ q ∈ l, q.ok = true := fun q hq => boardOk_ok h q hq
theorem runs_exist {wd hi : Int} {lb : List Pc} {l : List Pu} {R : Bool} (hR : R = (boardOk wd hi lb && pushesOk lb l)) : ∃ lr, RunsTo R lb l lr ∧ FlsWf lr ∧ lr.length ≤ 200 ∧ (R = false → lr = []) := by
  cases R with
  | false => exact ⟨[], ⟨fun _ => rfl, fun h => by cases h⟩, fun p hp => by simp at hp, by simp, fun _ => rfl⟩
  | true =>
    have hb : boardOk wd hi lb = true ∧ pushesOk lb l = true := by simpa using hR.symm
    have h200 := boardOk_len hb.1
    obtain ⟨H, hH, hF⟩ := RunI.ends (m := lb.length) rfl h200 (allOk hb.1) (pushesOk_plain hb.2) _ _ _ rfl (RunI.start rfl (pushesOk_plain hb.2) (pushesOk_len hb.2))
    have hg : ∀ k, k < lb.length → ((List.range lb.length).map H).getD k stay = H k := by
      intro k hk
      rw [List.getD_eq_getElem?_getD, List.getElem?_map, List.getElem?_range hk]
      rfl
    refine ⟨(List.range lb.length).map H, ⟨fun h => (by cases h), fun _ => ⟨by simp, fun k hk => ?_⟩⟩, fun p hp => ?_, by simpa using h200, fun h => by cases h⟩
    · have hk' : k < lb.length := hk
      show Best (Cand (gameL lb l) _ k) (((List.range lb.length).map H).getD k stay)
      rw [hg k hk']
      have hc : ∀ g, Cand (gameL lb l) H k g ↔ Cand (gameL lb l) (fun k => ((List.range lb.length).map H).getD k stay) k g := by
        intro g
        constructor
        · rintro (h | ⟨i, hi, h0, h⟩)
          · exact .inl h
          · have e : ((List.range lb.length).map H).getD i stay = H i := hg i hi
            exact .inr ⟨i, hi, by show 0 ≤ (((List.range lb.length).map H).getD i stay).tick; rw [e]; exact h0, by show _ ∈ (gameL lb l).outs i (((List.range lb.length).map H).getD i stay); rw [e]; exact h⟩
        · rintro (h | ⟨i, hi, h0, h⟩)
          · exact .inl h
          · have h0' : 0 ≤ (((List.range lb.length).map H).getD i stay).tick := h0
            have h' : (k, g) ∈ (gameL lb l).outs i (((List.range lb.length).map H).getD i stay) := h
            rw [hg i hi] at h0' h'
            exact .inr ⟨i, hi, h0', h'⟩
      exact best_congr hc (hH k hk)
    · obtain ⟨k, hk, rfl⟩ := List.mem_map.1 hp
      have hk' : k < lb.length := List.mem_range.1 hk
      by_cases ht : (H k).tick < 0
      · rw [((hH k hk').1 ht).1]; exact ⟨by decide, by decide, by decide⟩
      · have hf := hF k hk' (by omega)
        unfold Fl.fine at hf
        exact ⟨wf64' (by omega), wf8' (by omega), wf64' (by omega)⟩
theorem RunsTo.at_ {lb : List Pc} {l : List Pu} {lr : List Fl} {F : Nat → Fl} {w : World} {g m : Nat} (h : RunsTo true lb l lr) (hok : (gameL lb l).ok) (hm : lb.length = m) (hF : FRow w g m F) (hS : Sol (gameL lb l) F) : FlsAt w g 0 lr := by
  obtain ⟨h1, h2⟩ := h.2 rfl
  intro i hi
  have := hF.at_ i (by omega)
  rw [sol_unique hok hS h2 i (show i < lb.length by omega)] at this
  rw [Nat.zero_add]
  simpa [List.getD_eq_getElem?_getD, List.getElem?_eq_getElem hi] using this
/-- the answer of a function that gives falls and a code -/
def FlPost (lr : List Fl) (C : Int) (w : World) (e : Ending) (w' : World) : Prop :=
  ∃ v, e = .returned (.tuple #[v, .int .i64 C]) ∧ SlWFl w.heap.size w'.heap.size w' lr v ∧ Below w.heap.size w w'
end Go.Proofs.YtflkfkbdgekpkaaDoor

/- RunBoard: the model. -/
namespace Go.Proofs.YtflkfkbdgekpkaaDoor
open Go.ChangeShapes Go.WideShapes Go.ChangeAt Go.RowKit Go.Shelf
set_option linter.unusedVariables false

set_option maxRecDepth 100000 in
set_option maxHeartbeats 2000000 in
theorem l02Asked_any (bb bo b o m cap : Nat) (wd hi : Int) (lb : List Pc) (pb n : Nat) (l : List Pu) (w : World) (hm : lb.length = m) (hbd : BdAt w bb bo wd hi (.slice (some ⟨b, o, none⟩) m cap)) (hq : PcsAt w b o lb) (hbb : b < w.heap.size) (hcap : m ≤ cap) (h8 : All8 lb) (hw8 : i8 wd) (hh8 : i8 hi) (hmm : m ≤ 1048576)
    (hn : l.length = n) (hp : PusAt w pb 0 l) (hb : pb < w.heap.size) (hw : PusWf l) (hmax : n ≤ 1048576) (R : Bool) (hR : R = (boardOk wd hi lb && pushesOk lb l)) (C : Int) (hC : (R = true → C = 0) ∧ (R = false → C = 1)) :
    Calls Tryd.prog 81 #[.pointer (some ⟨bb, bo, none⟩), .slice (some ⟨pb, 0, none⟩) n n] w fun e w' => e = .returned (.int .i64 C) ∧ Below w.heap.size w w' := by
  obtain ⟨Rb, hRb⟩ : ∃ Rb, Rb = boardOk wd hi lb := ⟨_, rfl⟩
  obtain ⟨Rp, hRp⟩ : ∃ Rp, Rp = pushesOk lb l := ⟨_, rfl⟩
  have HX := Lib.hid (l01Ok_any bb bo b o m cap wd hi lb _ hm hbd hq hbb hcap h8 hw8 hh8 hmm Rb hRb)
  have HY := Lib.hid (fun w2 (h2 : Below w.heap.size w w2) => l02Ok_any bb bo b o m cap wd hi lb pb n l w2 hm (hbd.below h2 hbd.lt) (hq.below h2 hbb) (Nat.lt_of_lt_of_le hbb h2.size) hcap hmm hn (hp.below h2 hb) (Nat.lt_of_lt_of_le hb h2.size) hw hmax Rp hRp)
  have HR : Hid (R = (Rb && Rp)) := Lib.hid (by rw [hR, hRb, hRp])
  have HC := Lib.hid hC
  clear hbd hm hq hn hp hR hRb hRp h8 hw hC
  cases Rb with
  | false =>
    obtain rfl : C = 1 := HC.out.2 (by rw [HR.out]; rfl)
    clear HC HR
    go_enter Tryd.func81, Tryd.ntmps81
    go_wp2_with fail
    refine HX.out.mono ?_
    rintro e w1 ⟨rfl, hb1⟩
    go_wp2
    go_ret
    exact ⟨rfl, by repeat (first | with_reducible exact Below.refl _ _ | (with_reducible refine kSet ?_ ?hB _; case hB => (simp; try omega)) | with_reducible refine kAlloc ?_ _ | with_reducible refine Below.drew ?_ | with_reducible refine kDrewN ?_ _ | with_reducible refine kTrans ?_ (by assumption))⟩
  | true =>
    go_enter Tryd.func81, Tryd.ntmps81
    go_wp2_with fail
    refine HX.out.mono ?_
    rintro e w1 ⟨rfl, hb1⟩
    have H2 := Lib.hid (HY.out w1 hb1)
    clear HX HY
    go_wp2_with fail
    refine H2.out.mono ?_
    rintro e w2 ⟨rfl, hb2⟩
    cases Rp with
    | false =>
      obtain rfl : C = 1 := HC.out.2 (by rw [HR.out]; rfl)
      clear HC HR
      go_wp2
      go_ret
      exact ⟨rfl, by repeat (first | with_reducible exact Below.refl _ _ | (with_reducible refine kSet ?_ ?hB _; case hB => (simp; try omega)) | with_reducible refine kAlloc ?_ _ | with_reducible refine Below.drew ?_ | with_reducible refine kDrewN ?_ _ | with_reducible refine kTrans ?_ (by assumption))⟩
    | true =>
      obtain rfl : C = 0 := HC.out.1 (by rw [HR.out]; rfl)
      clear HC HR
      go_wp2
      go_ret
      exact ⟨rfl, by repeat (first | with_reducible exact Below.refl _ _ | (with_reducible refine kSet ?_ ?hB _; case hB => (simp; try omega)) | with_reducible refine kAlloc ?_ _ | with_reducible refine Below.drew ?_ | with_reducible refine kDrewN ?_ _ | with_reducible refine kTrans ?_ (by assumption))⟩
/-- the model's run, as the one answer -/
theorem l02Run_to (bb bo b o m cap pb n : Nat) (wd hi : Int) (lb : List Pc) (l : List Pu) (w : World) (hm : lb.length = m) (hbd : BdAt w bb bo wd hi (.slice (some ⟨b, o, none⟩) m cap)) (hq : PcsAt w b o lb) (hbb : b < w.heap.size) (hcap : m ≤ cap)
    (hn : l.length = n) (hp : PusAt w pb 0 l) (hb : pb < w.heap.size) (hR : true = (boardOk wd hi lb && pushesOk lb l)) (lr : List Fl) (hlr : RunsTo true lb l lr) :
    Calls Tryd.prog 61 #[.pointer (some ⟨bb, bo, none⟩), .slice (some ⟨pb, 0, none⟩) n n] w fun e w' => ∃ v, e = .returned v ∧ SlWFl w.heap.size w'.heap.size w' lr v ∧ Below w.heap.size w w' := by
  have hok : boardOk wd hi lb = true ∧ pushesOk lb l = true := by simpa using hR.symm
  have h200 := boardOk_len hok.1
  have hlen := (hlr.2 rfl).1
  refine (l02Run_any bb bo b o m cap pb n n wd hi lb l w hm hbd hq hbb hcap (allOk hok.1) (by omega) hn hp hb (pushesOk_plain hok.2) (pushesOk_found hok.2) (by have := pushesOk_len hok.2; omega) (Nat.le_refl _)).mono ?_
  rintro e w' ⟨g, F, rfl, hF, hS, hg, hb'⟩
  have hfl := hlr.at_ (gameL_ok (allOk hok.1) (pushesOk_plain hok.2)) hm hF hS
  have hsl := SlWFl.mk (lo := w.heap.size) (hi := w'.heap.size) g 0 m hfl hg hF.lt hF.lt hF.fz (by omega)
  rw [show lr.length = m by omega] at hsl
  exact ⟨_, rfl, hsl, hb'⟩
end Go.Proofs.YtflkfkbdgekpkaaDoor

/- The package's variable 'stays', listed and tied: what the condition gives, a world that meets it, the law's end. -/
namespace Go.Proofs.YtflkfkbdgekpkaaDoor
open Go.ChangeShapes Go.WideShapes Go.ChangeAt Go.RowKit Go.WideElems
set_option linter.unusedVariables false

theorem gStays : Tryd.prog.globalNamed "loop.example/g01274/impl.stays" = some 0 := by kernel_rfl
theorem tStays : (Tryd.prog.globals[0]?).map (·.type) = some 73 := by kernel_rfl
theorem laidOut : laidOutB Tryd.prog = true := by kernel_rfl
theorem staysRowed : varsRowed Tryd.prog ["loop.example/g01274/impl.stays"] = true := by kernel_rfl
def laid1 : List (String × DataW Unit) := [("loop.example/g01274/impl.stays", Rows.laid_loop_example_g01274_impl_stays)]
theorem door_met (os : Os) (args : Array Value) : laidMetH Tryd.prog laid1 ((World.doorLaid Tryd.prog 400 os).forCall (fun _ _ => 0) ⟨#[], args, []⟩).memory :=
  laidMetH_of_parts3 (fuel := 8) (laidMet_of_run' 8 (by kernel_rfl) (by kernel_rfl)) (by kernel_rfl) (by kernel_rfl)
theorem StayAt.kept {lo hi : Nat} {w w' : World} (h : StayAt w) (g : KeptOut lo hi w w') (h0 : 0 < lo) : StayAt w' :=
  ⟨⟨(g.cell h.2 (.inl h0)).trans h.1.1, (g.cell h.2 (.inl h0)).trans h.1.2.1, (g.cell h.2 (.inl h0)).trans h.1.2.2⟩, Nat.lt_of_lt_of_le h.2 g.size⟩
theorem fall_struct : ∃ f0 f1 f2 : Field, Tryd.prog.underlying 73 = some (.struct #[f0, f1, f2]) ∧ (Tryd.prog.underlying f0.type = some (.int .i64) ∧ Tryd.prog.underlying f1.type = some (.int .i8) ∧ Tryd.prog.underlying f2.type = some (.int .i64)) ∧ (f0.offset = 0 ∧ f1.offset = 1 ∧ f2.offset = 2) ∧
    (Tryd.prog.cellsOf f0.type = 1 ∧ Tryd.prog.cellsOf f1.type = 1 ∧ Tryd.prog.cellsOf f2.type = 1) ∧ Tryd.prog.cellsOf 73 = 3 :=
  ⟨_, _, _, Tryd.underlying73, ⟨by kernel_rfl, by kernel_rfl, by kernel_rfl⟩, ⟨by kernel_rfl, by kernel_rfl, by kernel_rfl⟩, ⟨by kernel_rfl, by kernel_rfl, by kernel_rfl⟩, by kernel_rfl⟩
theorem stay_of_laid {W : World} (h : laidMetH Tryd.prog laid1 W) : StayAt W := by
  rw [MakeChecks.laidMetH_plain _ _ _ (by kernel_rfl)] at h
  obtain ⟨ps, ⟨g0, t0, cs0, f0_, p0, q0, hg0, ht0, hv0, hd0, _, _⟩, _, _⟩ := h
  obtain rfl := Option.some.inj (gStays.symm.trans hg0)
  obtain rfl := Option.some.inj (tStays.symm.trans ht0)
  obtain ⟨f0, f1, f2, hu, ⟨u0, u1, u2⟩, ⟨o0, o1, o2⟩, ⟨n0, n1, n2⟩, n3⟩ := fall_struct
  obtain ⟨y0, y1, y2, n, e, hl, h0, h1, h2⟩ := Deep.trod_struct3 hu hd0
  obtain ⟨L⟩ := cs0
  simp only at hl h0 h1 h2
  rw [n3] at hl
  rw [o0, n0] at h0
  rw [o1, n1] at h1
  rw [o2, n2] at h2
  match L, hl, h0, h1, h2, hv0 with
  | [a, b, c], _, h0, h1, h2, hv0 =>
    obtain ⟨k0, e0, x0, _⟩ := DataW.trod_int u0 h0
    obtain ⟨k1, e1, x1, _⟩ := DataW.trod_int u1 h1
    obtain ⟨k2, e2, x2, _⟩ := DataW.trod_int u2 h2
    have ee := congrArg Prod.fst e
    simp only [Rows.laid_loop_example_g01274_impl_stays, x0, x1, x2, DataW.agg.injEq, List.cons.injEq, DataW.lit.injEq, Lit.int.injEq, true_and, and_true] at ee
    obtain ⟨r0, r1, r2⟩ := ee
    simp at e0 e1 e2
    subst e0 e1 e2 r0 r1 r2
    have hc : ∀ j, W.cell? ⟨0, j, none⟩ = (#[Value.int .i64 (-1), .int .i8 0, .int .i64 (-1)] : Array Value)[j]? := fun j => World.var?_cell gStays hv0 j
    have c0 : W.cell? ⟨0, 0, none⟩ = some (.int .i64 (-1)) := hc 0
    exact ⟨⟨c0, hc 1, hc 2⟩, World.block_lt_of_cell? W _ c0⟩
theorem law_post1 {H : Type} {enc : TypeId × Value → H} {P : Program} (K : Kids P (· < P.types.size)) (full : ∀ t e, t < P.types.size → P.underlying t = some (.slice e) → 0 < P.cellsOf e) (hlo : laidOutB P = true) {nm : String} (hro : varsRowed P [nm] = true)
    {f : Func} {s : ChangeSpec} {W W' : World} {args : Array Value} {ds gs : List (DataW H)} {before : List MemPlace} {tb : TypeId} (hb : P.underlying tb = some .bool)
    (hpar : ∀ t ∈ f.params.toList, t < P.types.size) (hres : f.resultTypes = #[tb]) (hvars : s.vars = [nm]) (hfn : ∀ g, s.fn H (ds ++ [g]) = { results := [.lit (.bool true)], args := ds, vars := [g] })
    (hW : DataW.Whole enc P f.params.toList s.vars false W args.toList ds gs before) (hg : Below W.heap.size W W') : s.post enc P f false true false false W args (.bool true) W' := by
  have hW' := hW
  obtain ⟨p, q, hA, hV, rfl, _, _⟩ := hW
  rw [hvars] at hV
  obtain ⟨g, _, _, _, d, _, rfl, _⟩ := trodVars_one hV
  have hlt : ∀ x ∈ p, x.block < W.heap.size := DataW.TrodAll.lt hA
  refine ⟨ds, [d], p ++ q, [], p, q, hW', ?_, ?_, ?_, World.keptBut_mono (fun x hx => ⟨hx, ?_⟩) (hg.frame (· ∈ p ++ q)), fun h => by cases h⟩
  · rw [hfn, hres]
    exact trodAll_cons_mk (shut_bool hb _) trodAll_mk0
  · rw [hfn]
    exact DataW.TrodAll.respare K full hpar (trodAll_below hg hA hlt) (fun x hx => by simpa using hlt x hx)
  · rw [hfn, hvars]
    exact Below.trodVars hlo hg hro hV
  · rcases List.mem_append.1 hx with h | h
    · exact .inr (.inl h)
    · exact .inr (.inr h)
end Go.Proofs.YtflkfkbdgekpkaaDoor
