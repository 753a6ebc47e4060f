/- 'ReadWay' answers as its model at every argument. No conditions. -/
import Derived.Test.YtobhppkcgioheaaDoorTiS
import Derived.Test.YtobhppkcgioheaaDoorRwS
import Derived.Test.YtobhppkcgioheaaDoorRwI
import Derived.ChangeMaps5
namespace Go.Proofs.YtobhppkcgioheaaDoor.ReadWay
open Go.ChangeShapes Go.ChangeMaps Go.WideShapes Go.ChangeAt Go.RowKit
set_option linter.unusedVariables false

set_option maxHeartbeats 2000000 in
theorem eqWay_same (p : Wy) (w : World) (h : p.in8) :
    Calls Tryd.prog 12 #[.agg #[.int .i8 p.fx, .int .i8 p.fy, .int .i8 p.sd, .int .i8 p.tx, .int .i8 p.ty, .int .i8 p.ot], .agg #[.int .i8 p.fx, .int .i8 p.fy, .int .i8 p.sd, .int .i8 p.tx, .int .i8 p.ty, .int .i8 p.ot]] w fun e w' => e = .returned (.bool true) ∧ Below w.heap.size w w' := by
  obtain ⟨a, b, c, d, f, g⟩ := p
  obtain ⟨h0, h1, h2, h3, h4, h5⟩ := h
  simp only at h0 h1 h2 h3 h4 h5 ⊢
  obtain ⟨W0, hW⟩ : ∃ W0, (w.alloc (.cells #[.int .i8 a, .int .i8 b, .int .i8 c, .int .i8 d, .int .i8 f, .int .i8 g] 26)).alloc (.cells #[.int .i8 a, .int .i8 b, .int .i8 c, .int .i8 d, .int .i8 f, .int .i8 g] 26) = W0 := ⟨_, rfl⟩
  have k0 : Below w.heap.size w W0 := by rw [← hW]; exact kAlloc (kAlloc (Below.refl _ _) _) _
  have bX : W0.heap[w.heap.size]? = some (.cells #[.int .i8 a, .int .i8 b, .int .i8 c, .int .i8 d, .int .i8 f, .int .i8 g] 26 (0, 0)) := by rw [← hW]; exact (Below.heap_alloc _ _ _ (by simp)).trans (heap_alloc_new _ _)
  have bY : W0.heap[w.heap.size + 1]? = some (.cells #[.int .i8 a, .int .i8 b, .int .i8 c, .int .i8 d, .int .i8 f, .int .i8 g] 26 (0, 0)) := by rw [← hW]; exact heap_two _ _ _
  have lX := blk_lt bX
  have lY := blk_lt bY
  have HX := Lib.hid (fun W2 (h : Below W0.heap.size W0 W2) => blk_below bX h)
  have HY := Lib.hid (fun W2 (h : Below W0.heap.size W0 W2) => blk_below bY h)
  have HK := Lib.hid k0
  have HW := Lib.hid hW
  have x0 : W0.cell? ⟨w.heap.size, 0, none⟩ = some (.int .i8 a) := cell_of_row _ _ 0 _ _ _ bX
  have x1 : W0.cell? ⟨w.heap.size, 1, none⟩ = some (.int .i8 b) := cell_of_row _ _ 1 _ _ _ bX
  have y0 : W0.cell? ⟨w.heap.size + 1, 0, none⟩ = some (.int .i8 a) := cell_of_row _ _ 0 _ _ _ bY
  have y1 : W0.cell? ⟨w.heap.size + 1, 1, none⟩ = some (.int .i8 b) := cell_of_row _ _ 1 _ _ _ bY
  clear hW bX bY k0
  go_enter Tryd.func12, Tryd.ntmps12
  go_upto_region 1 with fail
  try rw [HW.out]
  go_wp2_with fail
  refine (eqCell_same a b _ h0 h1).mono ?_
  rintro e w1 ⟨rfl, hb1⟩
  have n1 := hb1.size
  have bX := HX.out _ hb1
  have bY := HY.out _ hb1
  have lX1 := blk_lt bX
  have lY1 := blk_lt bY
  have x2 : w1.cell? ⟨w.heap.size, 2, none⟩ = some (.int .i8 c) := cell_of_row _ _ 2 _ _ _ bX
  have x3 : w1.cell? ⟨w.heap.size, 3, none⟩ = some (.int .i8 d) := cell_of_row _ _ 3 _ _ _ bX
  have x4 : w1.cell? ⟨w.heap.size, 4, none⟩ = some (.int .i8 f) := cell_of_row _ _ 4 _ _ _ bX
  have y2 : w1.cell? ⟨w.heap.size + 1, 2, none⟩ = some (.int .i8 c) := cell_of_row _ _ 2 _ _ _ bY
  have y3 : w1.cell? ⟨w.heap.size + 1, 3, none⟩ = some (.int .i8 d) := cell_of_row _ _ 3 _ _ _ bY
  have y4 : w1.cell? ⟨w.heap.size + 1, 4, none⟩ = some (.int .i8 f) := cell_of_row _ _ 4 _ _ _ bY
  have K1 := Lib.hid hb1
  clear bX bY hb1 x0 x1 y0 y1
  go_wp2_with fail
  refine (eqCell_same d f _ h3 h4).mono ?_
  rintro e w2 ⟨rfl, hb2⟩
  have K2 := Lib.hid (kTrans K1.out hb2)
  have bX := HX.out _ K2.out
  have bY := HY.out _ K2.out
  have lX2 := blk_lt bX
  have lY2 := blk_lt bY
  have x5 : w2.cell? ⟨w.heap.size, 5, none⟩ = some (.int .i8 g) := cell_of_row _ _ 5 _ _ _ bX
  have y5 : w2.cell? ⟨w.heap.size + 1, 5, none⟩ = some (.int .i8 g) := cell_of_row _ _ 5 _ _ _ bY
  clear bX bY hb2 x2 x3 x4 y2 y3 y4
  go_wp2
  go_ret
  exact ⟨rfl, kTrans HK.out K2.out⟩

set_option maxRecDepth 100000 in
set_option maxHeartbeats 4000000 in
theorem walk {w : World} (hst_ : StayAt w) (S : ByteArray) (hz : S.size ≤ maxLen) :
    Calls Tryd.prog 3 #[.string S] w fun e w' => e = .returned (.bool true) ∧ Below w.heap.size w w' := by
  unfold maxLen at hz
  obtain ⟨l, hl⟩ : ∃ l, S.data.toList = l := ⟨_, rfl⟩
  have hS : bsT l = S := by rw [← hl]; exact bsT_of S
  have hsz : S.size = l.length := by rw [← hS, bsT_size]
  by_cases hlen : 1048576 < l.length
  · have h1 : (1048576 : Int) < (S.size : Int) := by omega
    clear hl hS hst_ hsz
    go_enter Tryd.func3, Tryd.ntmps3
    go_wp2
    go_ret
    exact ⟨rfl, Below.refl _ _⟩
  · have h1 : ¬ (1048576 : Int) < (S.size : Int) := by omega
    obtain ⟨p, C, hA⟩ := rwA_ex l
    have h8 := hA.in8
    have Hs := Lib.hid (fun W => (by have h := specReadWay_any l W (by omega) p C hA; rw [hS] at h; exact h : Calls Tryd.prog 10 #[.string S] W fun e w' => e = .returned (.tuple #[.agg #[.int .i8 p.fx, .int .i8 p.fy, .int .i8 p.sd, .int .i8 p.tx, .int .i8 p.ty, .int .i8 p.ot], .int .i64 C]) ∧ Below W.heap.size W w'))
    have Hi := Lib.hid (fun W (h2 : StayAt W) => (by have h := implReadWay_any l W (by omega) h2.err h2.side p C hA; rw [hS] at h; exact h : Calls Tryd.prog 11 #[.string S] W fun e w' => e = .returned (.tuple #[.agg #[.int .i8 p.fx, .int .i8 p.fy, .int .i8 p.sd, .int .i8 p.tx, .int .i8 p.ty, .int .i8 p.ot], .int .i64 C]) ∧ Below W.heap.size W w'))
    have ST := Lib.hid (fun W (h : Below w.heap.size w W) => hst_.below h)
    clear hA hl hS hst_ hsz hlen
    go_enter Tryd.func3, Tryd.ntmps3
    go_wp2_with fail
    refine (Hs.out _).mono ?_
    rintro e w1 ⟨rfl, hb1⟩
    obtain ⟨W1, hW1⟩ : ∃ z, w1.alloc (.cells #[.int .i8 p.fx, .int .i8 p.fy, .int .i8 p.sd, .int .i8 p.tx, .int .i8 p.ty, .int .i8 p.ot] 26) = z := ⟨_, rfl⟩
    have kA : Below w1.heap.size w1 W1 := by rw [← hW1]; exact kAlloc (Below.refl _ _) _
    have b1 : W1.heap[w1.heap.size]? = some (.cells #[.int .i8 p.fx, .int .i8 p.fy, .int .i8 p.sd, .int .i8 p.tx, .int .i8 p.ty, .int .i8 p.ot] 26 (0, 0)) := by rw [← hW1]; exact heap_alloc_new _ _
    have K1 := Lib.hid (kTrans hb1 kA)
    obtain ⟨X, hX⟩ : ∃ X, w1.heap.size = X := ⟨_, rfl⟩
    rw [hX] at b1
    have lX := blk_lt b1
    have B1 := Lib.hid (fun W2 (h : Below W1.heap.size W1 W2) => blk_below b1 h)
    have HW1 := Lib.hid hW1
    have HX := Lib.hid hX
    have HiW := Lib.hid (Hi.out W1 (ST.out W1 K1.out))
    clear hb1 kA b1 hW1 hX
    go_upto_region 4 with fail
    try rw [HW1.out]
    try rw [HX.out]
    clear HW1 HX
    go_wp2_with fail
    refine HiW.out.mono ?_
    rintro e w2 ⟨rfl, hb2⟩
    obtain ⟨W2, hW2⟩ : ∃ z, w2.alloc (.cells #[.int .i8 p.fx, .int .i8 p.fy, .int .i8 p.sd, .int .i8 p.tx, .int .i8 p.ty, .int .i8 p.ot] 26) = z := ⟨_, rfl⟩
    have kA : Below w2.heap.size w2 W2 := by rw [← hW2]; exact kAlloc (Below.refl _ _) _
    have b2 : W2.heap[w2.heap.size]? = some (.cells #[.int .i8 p.fx, .int .i8 p.fy, .int .i8 p.sd, .int .i8 p.tx, .int .i8 p.ty, .int .i8 p.ot] 26 (0, 0)) := by rw [← hW2]; exact heap_alloc_new _ _
    have K2 := Lib.hid (kTrans K1.out (kTrans hb2 kA))
    have b1 := B1.out _ (kTrans hb2 kA)
    obtain ⟨Y, hY⟩ : ∃ Y, w2.heap.size = Y := ⟨_, rfl⟩
    rw [hY] at b2
    have lX2 := blk_lt b1
    have lY := blk_lt b2
    have HW2 := Lib.hid hW2
    have HY := Lib.hid hY
    clear hb2 kA hW2 hY HiW
    go_upto_region 5 with fail
    try rw [HW2.out]
    try rw [HY.out]
    clear HW2 HY
    have x0 : W2.cell? ⟨X, 0, none⟩ = some (.int .i8 p.fx) := cell_of_row _ _ 0 _ _ _ b1
    have x1 : W2.cell? ⟨X, 1, none⟩ = some (.int .i8 p.fy) := cell_of_row _ _ 1 _ _ _ b1
    have x2 : W2.cell? ⟨X, 2, none⟩ = some (.int .i8 p.sd) := cell_of_row _ _ 2 _ _ _ b1
    have x3 : W2.cell? ⟨X, 3, none⟩ = some (.int .i8 p.tx) := cell_of_row _ _ 3 _ _ _ b1
    have x4 : W2.cell? ⟨X, 4, none⟩ = some (.int .i8 p.ty) := cell_of_row _ _ 4 _ _ _ b1
    have x5 : W2.cell? ⟨X, 5, none⟩ = some (.int .i8 p.ot) := cell_of_row _ _ 5 _ _ _ b1
    have y0 : W2.cell? ⟨Y, 0, none⟩ = some (.int .i8 p.fx) := cell_of_row _ _ 0 _ _ _ b2
    have y1 : W2.cell? ⟨Y, 1, none⟩ = some (.int .i8 p.fy) := cell_of_row _ _ 1 _ _ _ b2
    have y2 : W2.cell? ⟨Y, 2, none⟩ = some (.int .i8 p.sd) := cell_of_row _ _ 2 _ _ _ b2
    have y3 : W2.cell? ⟨Y, 3, none⟩ = some (.int .i8 p.tx) := cell_of_row _ _ 3 _ _ _ b2
    have y4 : W2.cell? ⟨Y, 4, none⟩ = some (.int .i8 p.ty) := cell_of_row _ _ 4 _ _ _ b2
    have y5 : W2.cell? ⟨Y, 5, none⟩ = some (.int .i8 p.ot) := cell_of_row _ _ 5 _ _ _ b2
    clear b1 b2
    go_wp2_with fail
    refine (eqWay_same p _ h8).mono ?_
    rintro e w3 ⟨rfl, hb3⟩
    have K3 := Lib.hid (kTrans K2.out hb3)
    clear hb3 x0 x1 x2 x3 x4 x5 y0 y1 y2 y3 y4 y5
    go_wp2
    go_ret
    exact ⟨rfl, K3.out⟩

set_option maxRecDepth 100000 in
theorem lifted (os : Os) (started : os.Started) (H : Type) (enc : TypeId × Value → H) :
    ReturnsInHanded {} Tryd.checked os 3 .any (fun w args => (Rows.fnExactReadWaySpec.pre enc Tryd.prog Tryd.f3 [] false w args ∧ laidMetH Tryd.prog laid1 w) ∧ sizedMet enc Tryd.prog Tryd.f3 (OpenSpec.ofChange Rows.fnExactReadWaySpec) false w args) (Rows.fnExactReadWaySpec.post enc Tryd.prog Tryd.f3 false true false false) := by
  refine returnsInHanded_of_change_and (C := Tryd.checked) (X := fun w _ => laidMetH Tryd.prog laid1 w) (fun _ _ _ hh h => h.of_heap hh) own started (by kernel_rfl) Tryd.func3
    (ChangeSpec.witness_shaped (enc := enc) (C := Tryd.checked) (os := os) (X := fun w _ => laidMetH Tryd.prog laid1 w) false (World.laidAll Tryd.prog os laid1) #[.string ⟨#[]⟩] 8 (World.laidAll_os _ _ _) (World.shaped_of_ZipB (by kernel_rfl) (by kernel_rfl)) (by kernel_rfl) (by kernel_rfl) (by kernel_rfl) (door_met os _)) ?_
  intro W base args ds gs before hval0 hW _ _ hL _
  have hval : ∀ (j : Nat) t v, Tryd.f3.params[j]? = some t → args[j]? = some v → Value.okWide Tryd.prog W .any base t v := hval0
  have hW' := hW
  obtain ⟨p, q, hA0, hV, rfl, hfz, hnd⟩ := hW
  have hA : DataW.TrodAll enc Tryd.prog W 0 (fun _ => true) true Tryd.f3.params.toList args.toList ds p := hA0
  rw [Tryd.params3] at hA hval
  have r_ := hA
  obtain ⟨v0, vs0, d0, ds0, pp0, qq0, hargs0, hds0, _, h0, r_⟩ := trodAll_cons r_
  obtain ⟨hv_, hd_, _⟩ := trodAll_nil r_
  subst hv_ hd_
  obtain rfl : args = #[v0] := by cases args; simp_all
  subst hds0
  obtain ⟨S0, rfl, rfl, rfl, z0⟩ := open_string Tryd.underlying9 (hval 0 9 v0 rfl rfl) h0
  refine (walk (w := W) (stay_of_laid hL) S0 z0).mono fun e W' ⟨he, hg⟩ => ?_
  subst he
  exact ⟨_, rfl, law_post1 kids full laidOut staysRowed Tryd.underlying4 (by decide) rfl rfl (fun _ => rfl) hW' hg⟩

theorem over : Rows.fnExactReadWayRow.holds Tryd.pinned (OpenSpec.ofChange Rows.fnExactReadWaySpec) :=
  OpenClaim.holds_of_wide 3 Tryd.f3 rfl rfl rfl rfl rfl rfl rfl ⟨rfl, rfl, rfl, rfl, rfl⟩ rfl rfl rfl rfl rfl (by kernel_rfl) Tryd.func3 (by kernel_rfl)
    (of_decide_eq_true (by kernel_rfl)) (by unfold Func.isWrapper; first | (rw [if_pos (by decide +kernel)]; kernel_rfl) | (rw [if_neg (by decide +kernel)]; exact ⟨rfl, rfl⟩))
    (fun os started H enc _ => lifted os started H enc)

/-- The statement. -/
theorem proved : Rows.FnExactReadWayCardSaid :=
  Claim7.holds_tied_plain_at .later [] [.data, .data, .data, .data, .sentinel, .sentinel, .data, .pinned] true (true, "823631560a66f148f20d2893f516a7d71e9f74d92fc339fcd3bfa1f59866e020") true
    over (fun _ h => by cases h) (by kernel_rfl) (fun _ h => by cases h) fnExactReadWay_row_tie rfl ⟨rfl, rfl⟩ (by kernel_rfl) rfl
    (fun f fn hf hfn => by
      obtain rfl : f = 3 := Option.some.inj ((show Tryd.prog.funcNamed "loop.example/g01274/laws.FnExactReadWay" = some 3 by kernel_rfl).symm.trans hf) |>.symm
      obtain rfl : fn = Tryd.f3 := (Option.some.inj (Tryd.func3.symm.trans hfn)).symm
      exact ⟨by kernel_rfl, fun j t ht => by
        rw [Tryd.params3] at ht
        have hm : t ∈ [9] := by simpa using Array.mem_of_getElem? ht
        have hall : ([9].all fun u => !Tryd.prog.wantsStandIn u) = true := by kernel_rfl
        exact (show Tryd.prog.wantsStandIn t = false by simpa using List.all_eq_true.1 hall t hm)⟩)
    (by kernel_rfl)
#print axioms proved
end Go.Proofs.YtobhppkcgioheaaDoor.ReadWay
