/- ReadPush..: the program's line. -/
import Derived.Test.YthngnbaoaeomeaaDoorPz0
import Derived.Deep.DeepCutAuto
import Derived.StillTailTactics
namespace Go.Proofs.YthngnbaoaeomeaaDoor
open Go.ChangeShapes Go.WideShapes Go.ChangeAt Go.RowKit Go.Joins Go.Deep
set_option linter.unusedVariables false
set_option linter.unusedSimpArgs false

theorem parse16_dec {n : Int} (h0 : 0 ≤ n) (h1 : n ≤ 1000) : Lib.parseIntB 16 (decL n) = .ok n := by
  have h := parseInt_dec (B := 16) (.inr rfl) (n := n.toNat) (by show n.toNat < 32768; omega)
  unfold decL
  rw [h]
  congr 1
  omega
theorem parse16_any (l : List UInt8) (w : World) (hs : l.length ≤ 2000000) (hE : ErrAt w) :
    Calls Tryd.prog 86 #[.string (bsT l), .int .i64 10, .int .i64 16] w fun e w' => ∃ n er ok, e = .returned (.tuple #[.int .i64 n, er]) ∧ ((ok = true ∧ (-32768 ≤ n ∧ n ≤ 32767) ∧ ∀ m, Lib.parseIntB 16 l = .ok m → n = m) ∨ (ok = false ∧ ∀ m, Lib.parseIntB 16 l ≠ .ok m)) ∧ ((ok = true ∧ er = .nilIface) ∨ (ok = false ∧ ∃ T a, er = .iface T (.pointer (some a)))) ∧ Below w.heap.size w w' := by
  by_cases h : ∃ m, Lib.parseIntB 16 l = .ok m
  · obtain ⟨m, hm⟩ := h
    refine (parse16_yes l w hs m hm).mono ?_
    rintro e w' ⟨rfl, hb⟩
    have hbd := parse_bounds (B := 16) (.inr rfl) hm
    exact ⟨m, _, true, rfl, .inl ⟨rfl, by simp at hbd; omega, fun m2 h2 => by rw [hm] at h2; cases h2; rfl⟩, .inl ⟨rfl, rfl⟩, hb⟩
  · refine (parse16_no l w hs (fun m hm => h ⟨m, hm⟩) hE).mono ?_
    rintro e w' ⟨n, T, a, rfl, hb⟩
    exact ⟨n, _, false, rfl, .inr ⟨rfl, fun m hm => h ⟨m, hm⟩⟩, .inr ⟨rfl, T, a, rfl⟩, hb⟩
/-- what the reader of a line leaves -/
def PzL (s : List UInt8) (w : World) (e : Ending) (w' : World) : Prop := ∃ p ok, e = .returned (.tuple #[.agg #[.int .i8 p.x, .int .i8 p.y, .int .i8 p.side, .int .i16 p.tick], .bool ok]) ∧ p.wf ∧ (∀ q, puIn q → s = puB q → ok = true ∧ p = q) ∧ Below w.heap.size w w'
theorem pz_zero : (⟨0, 0, 0, 0⟩ : Pu).wf := by exact ⟨wfX_i8 (by decide), wfX_i8 (by decide), wfX_i8 (by decide), wfX_i16 (by decide)⟩
theorem pz_fail {s : List UInt8} {w w' : World} {e : Ending} (h1 : e = .returned (.tuple #[.agg #[.int .i8 0, .int .i8 0, .int .i8 0, .int .i16 0], .bool false])) (h2 : ∀ q, puIn q → s ≠ puB q) (h3 : Below w.heap.size w w') : PzL s w e w' :=
  ⟨⟨0, 0, 0, 0⟩, false, h1, pz_zero, fun q h4 h5 => absurd h5 (h2 q h4), h3⟩
theorem pz_words {ws : List (List UInt8)} (h : ws.length = 4) : ∃ a0 a1 a2 a3, ws = [a0, a1, a2, a3] := by
  match ws, h with
  | [a0, a1, a2, a3], _ => exact ⟨a0, a1, a2, a3, rfl⟩
theorem pz_split {s a0 a1 a2 a3 : List UInt8} {q : Pu} (hw : spl 32 s = [a0, a1, a2, a3]) (h : s = puB q) : a0 = decL q.x ∧ a1 = decL q.y ∧ a2 = sideWL q.side ∧ a3 = decL q.tick := by
  rw [h, puB_words] at hw
  simp only [puWs, List.cons.injEq, and_true] at hw
  obtain ⟨e0, e1, e2, e3⟩ := hw
  exact ⟨e0.symm, e1.symm, e2.symm, e3.symm⟩
set_option maxRecDepth 100000 in
set_option maxHeartbeats 8000000 in
theorem parsePush_any (l : List UInt8) (w : World) (hl : l.length ≤ 1048576) (hE : ErrAt w) (hst : SideAt w) : Calls Tryd.prog 71 #[.string (bsT l)] w (PzL l w) := by
  obtain ⟨W0, hW⟩ : ∃ W0, w.alloc (.cells #[.int .i8 0, .int .i8 0, .int .i8 0, .int .i16 0] 73) = W0 := ⟨_, rfl⟩
  have k0 : Below w.heap.size w W0 := by rw [← hW]; exact kAlloc (Below.refl _ _) _
  have bR : W0.heap[w.heap.size]? = some (.cells #[.int .i8 0, .int .i8 0, .int .i8 0, .int .i16 0] 73 (0, 0)) := by rw [← hW]; exact heap_alloc_new _ _
  have lR := blk_lt bR
  obtain ⟨X, hX⟩ : ∃ X, w.heap.size = X := ⟨_, rfl⟩
  rw [hX] at bR lR
  obtain ⟨n, hn⟩ : ∃ n, (spl 32 l).length = n := ⟨_, rfl⟩
  have hnl : n ≤ 1048577 := by have := spl_length 32 l; omega
  have HBR := Lib.hid (fun W2 (h2 : Below W0.heap.size W0 W2) => blk_below bR h2)
  have HKW := Lib.hid (fun W2 (h2 : Below W0.heap.size W0 W2) => kTrans k0 h2)
  have HER := Lib.hid (fun W2 (h2 : Below W0.heap.size W0 W2) => hE.below (kTrans k0 h2))
  have HSI := Lib.hid (fun W2 (h2 : Below W0.heap.size W0 W2) => hst.below (kTrans k0 h2))
  have HSP := Lib.hid (split_any l 32 W0 (by omega) n hn)
  have HSH := Lib.hid (fun x (hx : x ∈ spl 32 l) => (by have := spl_short 32 l x hx; omega : x.length ≤ 2000000))
  have hXw : w.heap.size ≤ X := by omega
  have HW := Lib.hid hW
  have HX := Lib.hid hX
  have Hn := Lib.hid hn
  clear hW k0 bR hX hE hst hn hl
  go_enter Tryd.func71, Tryd.ntmps71
  go_upto_region 1 with fail
  try rw [HW.out]
  try rw [HX.out]
  clear HW HX
  go_wp2_with fail
  refine HSP.out.mono ?_
  rintro e w1 ⟨rfl, hrow, hb1⟩
  have K1 := Lib.hid hb1
  obtain ⟨g, hg⟩ : ∃ g, W0.heap.size = g := ⟨_, rfl⟩
  have hgW : W0.heap.size ≤ g := by omega
  rw [hg] at hrow ⊢
  have lg := blk_lt hrow
  have hst := StAt.of hrow
  have n1 := hb1.size
  clear HSP hb1 hrow hg
  by_cases h5 : n = 4
  · subst h5
    obtain ⟨a0, a1, a2, a3, hws⟩ := pz_words Hn.out
    have HWS := Lib.hid hws
    rw [hws] at hst
    have HST := Lib.hid (fun W2 (h2 : Below w1.heap.size w1 W2) => hst.below h2 lg)
    have HS1 := Lib.hid (parseSmalls2_any g 0 4 2 2 [a0, a1] w1 rfl (by have h := hst.take 2; simpa using h) lg (by omega) (fun x hx => HSH.out x (by rw [hws]; simp only [List.mem_cons, List.not_mem_nil, or_false] at hx ⊢; rcases hx with rfl | rfl <;> simp)) (by omega) (HER.out w1 K1.out))
    clear hws hst
    go_wp2_with fail
    refine HS1.out.mono ?_
    rintro e w3 ⟨v3, ok3, rfl, hr3, hb3⟩
    have HR3 := Lib.hid hr3
    have K3 := Lib.hid (kTrans K1.out hb3)
    have q2 : w3.cell? ⟨g, 2, none⟩ = some (.string (bsT a2)) := by have h := HST.out w3 hb3 2 a2 rfl; rwa [Nat.zero_add] at h
    have lg3 := Nat.lt_of_lt_of_le lg hb3.size
    have HN1 := Lib.hid (sideNamed2_any a2 w3 (HSI.out w3 K3.out))
    have q3 : w3.cell? ⟨g, 3, none⟩ = some (.string (bsT a3)) := by have h := HST.out w3 hb3 3 a3 rfl; rwa [Nat.zero_add] at h
    have HP3 := Lib.hid (parse16_any a3 w3 (HSH.out a3 (by rw [HWS.out]; simp)) (HER.out w3 K3.out))
    clear hr3 hb3 HS1
    go_wp2_with fail
    refine HN1.out.mono ?_
    rintro e w' ⟨k1, ok1, rfl, hr1, h⟩
    obtain rfl : w3 = w' := h
    have HR1 := Lib.hid hr1
    clear hr1 q2 HN1
    go_wp2_with fail
    refine HP3.out.mono ?_
    rintro e w5 ⟨tk, er, ok5, rfl, hr5, her, hb5⟩
    have HR5 := Lib.hid hr5
    have K5 := Lib.hid (kTrans K3.out hb5)
    have HB35 := Lib.hid hb5
    clear hr5 hb5 HP3 q3
    have rs_ := HBR.out _ K5.out
    have HB := Lib.hid (HKW.out _ K5.out)
    have HNO := Lib.hid (fun (h : ¬ (ok1 = true ∧ ok3 = true ∧ ok5 = true)) => (show ∀ q, puIn q → l ≠ puB q from fun q hq hl => h (by
      obtain ⟨e0, e1, e2, e3⟩ := pz_split HWS.out hl
      unfold puIn at hq
      refine ⟨?_, ?_, ?_⟩
      · rcases HR1.out.2 with ⟨a, _⟩ | ⟨_, a⟩
        · exact a
        · exact absurd (by rw [e2]; congr 1; omega) (a q.side.toNat (by omega))
      · rcases HR3.out with ⟨a, _⟩ | ⟨_, a⟩
        · exact a
        · exact absurd ⟨by rw [e0, e1]; rfl, rfl, fun x hx => by simp at hx; omega⟩ (a [q.x, q.y])
      · rcases HR5.out with ⟨a, _⟩ | ⟨_, a⟩
        · exact a
        · exact absurd (by rw [e3]; exact parse16_dec (by omega) (by omega)) (a q.tick)
    )))
    cases ok3 with
    | false =>
      have HF := Lib.hid (HNO.out (fun h => by cases h.2.1))
      clear HNO HR1 HR3 HR5 her
      go_wp2_with (refine wpList_store_row rfl 73 _ _ rfl X #[.int .i8 0, .int .i8 0, .int .i8 0, .int .i16 0] rfl rfl 73 _ rs_ (by kernel_rfl) (by kernel_rfl) (by kernel_rfl) ?_)
      refine bodyPost_ret (v := .tuple #[.agg #[.int .i8 0, .int .i8 0, .int .i8 0, .int .i16 0], .bool false]) (results_cell_tmp rfl _ _ X 73 #[.int .i8 0, .int .i8 0, .int .i8 0, .int .i16 0] (0, 0) _ _ rfl rfl (setRow_heap _ _ _ _ _ _ rs_) Tryd.underlying73 rfl (by kernel_rfl)) rfl ?_
      exact pz_fail rfl HF.out (kRowW HB.out hXw _)
    | true =>
      cases ok1 with
      | false =>
        have HF := Lib.hid (HNO.out (fun h => by cases h.1))
        clear HNO HR1 HR3 HR5 her
        go_wp2_with (refine wpList_store_row rfl 73 _ _ rfl X #[.int .i8 0, .int .i8 0, .int .i8 0, .int .i16 0] rfl rfl 73 _ rs_ (by kernel_rfl) (by kernel_rfl) (by kernel_rfl) ?_)
        refine bodyPost_ret (v := .tuple #[.agg #[.int .i8 0, .int .i8 0, .int .i8 0, .int .i16 0], .bool false]) (results_cell_tmp rfl _ _ X 73 #[.int .i8 0, .int .i8 0, .int .i8 0, .int .i16 0] (0, 0) _ _ rfl rfl (setRow_heap _ _ _ _ _ _ rs_) Tryd.underlying73 rfl (by kernel_rfl)) rfl ?_
        exact pz_fail rfl HF.out (kRowW HB.out hXw _)
      | true =>
        cases ok5 with
        | false =>
          have HF := Lib.hid (HNO.out (fun h => by cases h.2.2))
          obtain ⟨T5, a5, rfl⟩ : ∃ T a, er = .iface T (.pointer (some a)) := by
            rcases her with ⟨h, _⟩ | ⟨_, T, a, h⟩
            · cases h
            · exact ⟨T, a, h⟩
          clear HNO HR1 HR3 HR5 her
          go_wp2_with (refine wpList_store_row rfl 73 _ _ rfl X #[.int .i8 0, .int .i8 0, .int .i8 0, .int .i16 0] rfl rfl 73 _ rs_ (by kernel_rfl) (by kernel_rfl) (by kernel_rfl) ?_)
          refine bodyPost_ret (v := .tuple #[.agg #[.int .i8 0, .int .i8 0, .int .i8 0, .int .i16 0], .bool false]) (results_cell_tmp rfl _ _ X 73 #[.int .i8 0, .int .i8 0, .int .i8 0, .int .i16 0] (0, 0) _ _ rfl rfl (setRow_heap _ _ _ _ _ _ rs_) Tryd.underlying73 rfl (by kernel_rfl)) rfl ?_
          exact pz_fail rfl HF.out (kRowW HB.out hXw _)
        | true =>
          obtain rfl : er = .nilIface := by
            rcases her with ⟨_, h⟩ | ⟨h, _⟩
            · exact h
            · cases h
          have htk : -32768 ≤ tk ∧ tk ≤ 32767 := by
            rcases HR5.out with ⟨_, h, _⟩ | ⟨h, _⟩
            · exact h
            · cases h
          clear her
          obtain ⟨g3, F3, rfl, hm3, _, hf3, hs3⟩ : ∃ g F, v3 = .slice (some ⟨g, 0, none⟩) 2 2 ∧ MRow w3 g 2 F ∧ w1.heap.size ≤ g ∧ (∀ i, i < 2 → -128 ≤ F i ∧ F i ≤ 127) ∧ (∀ vs, Smalls vs [a0, a1] 2 → ∀ i, i < 2 → vs.getD i 0 = F i) := by
            rcases HR3.out with ⟨_, h⟩ | ⟨h, _⟩
            · exact h
            · cases h
          have hk1 : 0 ≤ k1 ∧ k1 ≤ 3 := by have := HR1.out.1; omega
          have hP := Lib.hid (show ∀ q, puIn q → l = puB q → (⟨F3 0, F3 1, k1, tk⟩ : Pu) = q from fun q hq hl => by
            obtain ⟨e0, e1, e2, e3⟩ := pz_split HWS.out hl
            unfold puIn at hq
            have s1 : Smalls [q.x, q.y] [a0, a1] 2 := ⟨by rw [e0, e1]; rfl, rfl, fun x hx => by simp at hx; omega⟩
            have f0 : q.x = F3 0 := hs3 _ s1 0 (by omega)
            have f1 : q.y = F3 1 := hs3 _ s1 1 (by omega)
            have f2 : k1 = q.side := by
              rcases HR1.out.2 with ⟨_, a⟩ | ⟨a, _⟩
              · exact side_eq (by rcases HR1.out.1 with h | h <;> omega) (by omega) (a.symm.trans e2)
              · cases a
            have f3 : tk = q.tick := by
              rcases HR5.out with ⟨_, _, h⟩ | ⟨h, _⟩
              · exact h q.tick (by rw [e3]; exact parse16_dec (by omega) (by omega))
              · cases h
            obtain ⟨z0, z1, z2, z3⟩ := q
            simp only at f0 f1 f2 f3
            rw [f0, f1, f2, f3])
          have b0 := hf3 0 (by omega)
          have b1 := hf3 1 (by omega)
          have c0 := hm3.at_ 0 (by omega)
          have c1 := hm3.at_ 1 (by omega)
          have l3_ := hm3.lt
          obtain ⟨x0, h0⟩ : ∃ x, F3 0 = x := ⟨_, rfl⟩
          obtain ⟨x1, h1⟩ : ∃ x, F3 1 = x := ⟨_, rfl⟩
          rw [h0] at c0 hP b0
          rw [h1] at c1 hP b1
          have c0 := (HB35.out.cell (p := ⟨g3, 0, none⟩) l3_).trans c0
          have c1 := (HB35.out.cell (p := ⟨g3, 1, none⟩) l3_).trans c1
          have l3_ := Nat.lt_of_lt_of_le l3_ HB35.out.size
          have wx3 : IntKind.i16.wrap tk = tk := IntWalk.i16_in _ (by omega)
          clear HR5 HNO HR1 HR3 hm3 hf3 hs3 h0 h1 rs_ HB HWS
          go_upto_region 9 with fail
          go_still_tail 11, (by kernel_rfl)
          change wpList _ _ _ _ _ w5.drew
          have rs_ := HBR.out w5.drew (Below.drew K5.out)
          have HB := Lib.hid (HKW.out w5.drew (Below.drew K5.out))
          go_wp2_with (refine wpList_store_row rfl 73 _ _ rfl X #[.int .i8 x0, .int .i8 x1, .int .i8 k1, .int .i16 tk] rfl rfl 73 _ rs_ (by kernel_rfl) (by kernel_rfl) (by kernel_rfl) ?_)
          refine bodyPost_ret (v := .tuple #[.agg #[.int .i8 x0, .int .i8 x1, .int .i8 k1, .int .i16 tk], .bool true]) (results_cell_tmp rfl _ _ X 73 #[.int .i8 x0, .int .i8 x1, .int .i8 k1, .int .i16 tk] (0, 0) _ _ rfl rfl (setRow_heap _ _ _ _ _ _ rs_) Tryd.underlying73 rfl (by kernel_rfl)) rfl ?_
          exact ⟨⟨x0, x1, k1, tk⟩, true, rfl, ⟨wfX_i8 (n := x0) (by omega), wfX_i8 (n := x1) (by omega), wfX_i8 (n := k1) (by omega), wfX_i16 (n := tk) (by omega)⟩, fun q h1 h2 => ⟨rfl, hP.out q h1 h2⟩, kRowW HB.out hXw _⟩
  · have HF := Lib.hid (show ∀ q, puIn q → l ≠ puB q from fun q _ hl => h5 (by rw [← Hn.out, hl, puB_words]; rfl))
    have e6 : ¬ ((n : Nat) : Int) = 4 := by omega
    have rs_ := HBR.out _ K1.out
    have HB := Lib.hid (HKW.out _ K1.out)
    clear Hn HSH HER HSI
    go_wp2_with (refine wpList_store_row rfl 73 _ _ rfl X #[.int .i8 0, .int .i8 0, .int .i8 0, .int .i16 0] rfl rfl 73 _ rs_ (by kernel_rfl) (by kernel_rfl) (by kernel_rfl) ?_)
    refine bodyPost_ret (v := .tuple #[.agg #[.int .i8 0, .int .i8 0, .int .i8 0, .int .i16 0], .bool false]) (results_cell_tmp rfl _ _ X 73 #[.int .i8 0, .int .i8 0, .int .i8 0, .int .i16 0] (0, 0) _ _ rfl rfl (setRow_heap _ _ _ _ _ _ rs_) Tryd.underlying73 rfl (by kernel_rfl)) rfl ?_
    exact pz_fail rfl HF.out (kRowW HB.out hXw _)
end Go.Proofs.YthngnbaoaeomeaaDoor
