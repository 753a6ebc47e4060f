/- Which nodes are needed. -/
import Derived.Test.YtdnjamlibnmpfaaBw
namespace Go.Proofs.Ytdnjamlibnmpfaa
open Go.ChangeShapes Go.WideShapes Go.ChangeAt Go.RowKit Go.Shelf Go.Joins Go.Deep
set_option linter.unusedVariables false
set_option linter.unusedSimpArgs false
attribute [local go_sem] Oper.semAt_some
theorem info_boolB : (Try.prog.info? 4).map (fun i => (i.zero, i.size, i.bytes)) = some (some (.bool false), 1, 1) := by kernel_rfl
theorem TRow.of_block {w w' : World} {g n : Nat} {F : Nat → Bool} (h : TRow w g n F) (hs : w.heap.size ≤ w'.heap.size) (hb : w'.heap[g]? = w.heap[g]?) : TRow w' g n F :=
  ⟨Nat.lt_of_lt_of_le h.lt hs, fun k hk => (World.cell?_of_block hb).trans (h.at_ k hk), fun j => (World.frozen?_of_block hb).trans (h.fz j)⟩
theorem trow_own {n g B : Nat} (hg : g < B) {α : Type} (f : α → Nat → Bool) : OwnFrom B (fun (pre : α) W => TRow W g n (f pre)) := by
  intro s X Y row hs hg2 hr
  exact hs.of_block hg2.size (hg2.block g hs.lt (fun e => by have := (hr _ e.symm).1; omega))
theorem grown_ownB {α : Type} {w : World} {f B : Nat} (hB : w.heap.size ≤ B) : OwnFrom B (fun (_ : List α) W => w.grownBy W (some f)) := by
  intro s X Y row hs hg hr
  refine ⟨hg.os.trans hs.os, hg.tape.trans hs.tape, hg.output.trans hs.output, Nat.le_trans hs.size hg.size, fun k hk hne => ?_⟩
  refine (hg.block k (Nat.lt_of_lt_of_le hk hs.size) (fun e => ?_)).trans (hs.block k hk hne)
  have := (hr _ e.symm).1
  omega
theorem operIn_of_wpB {l n : Nat} {P : Program} {o : Oper} {a : Act} {w : World} {K K' : Act → World → Prop} {Q : Exit → Act → World → Prop} (hd : ∀ c, o.op ≠ .defer c) (hKK : ∀ a w, K a w → K' a w) (h : Oper.wp P o a w K Q) :
    Oper.wpIn (Fence.wide.inRound l) n P o a w K' Q := by
  refine ⟨fun f _ => trivial, ?_⟩
  rw [Oper.semAt_eq _ _ _ hd]
  unfold Oper.wp at h
  generalize (execOp a.eval o).run P w = r at h ⊢
  cases r with
  | ok x w' =>
    cases x with
    | value v => exact hKK _ _ h
    | skip => exact hKK _ _ h
    | defer d => exact hKK _ _ h
    | enter f args =>
      refine ⟨fun h => (by cases h), (CallsIn.inRound l (callsIn_wide.2 h)).mono (fun e w'' he => ?_)⟩
      cases e with
      | returned v => exact hKK _ _ he
      | panicked c => exact he
      | outgrown => exact he
    | row r args => exact ⟨fun h => (by cases h), fun c cs _ => let ⟨v, w2, r1, s1⟩ := h c cs; ⟨v, w2, hKK _ _ r1, stepsIn_wide.2 s1⟩⟩
    | _ => exact h.elim
  | halt q w' =>
    cases q with
    | panic v => exact h
    | _ => exact h.elim
theorem anyIn_of_anyB {l n : Nat} {P : Program} {md : Region.Mode} {ops : Array Oper} {Q : Exit → Act → World → Prop} (hnd : ∀ (i : Nat) (o : Oper), ops[i]? = some o → ∀ c, o.op ≠ .defer c) (hlo : ¬ LetsOut Q) :
    ∀ (fuel : Nat) (listed : Array Bool) (a : Act) (w : World), wpAny P md ops Q fuel listed a w → wpAnyIn (Fence.wide.inRound l) n P md ops Q fuel listed a w
  | 0, _, _, _, h => h
  | fuel + 1, listed, a, w, h => by
    refine ⟨h.1, fun i hi => ?_⟩
    have h2 := h.2 i hi
    have ih := fun a w => anyIn_of_anyB (l := l) (n := n) (P := P) (md := md) (Q := Q) hnd hlo fuel (listed.setIfInBounds i true) a w
    unfold wpOp at h2
    unfold wpOpIn
    cases e : ops[i]? with
    | none => simp only [e] at h2 ⊢; exact ih _ _ h2
    | some o =>
      simp only [e] at h2 ⊢
      by_cases hw : Region.wanted o (yielded ops a.tmps) = true
      · rw [if_pos hw] at h2 ⊢
        rcases h2 with h2 | ⟨_, h2⟩
        · exact operIn_of_wpB (hnd i o e) ih h2
        · exact absurd h2 hlo
      · rw [if_neg hw] at h2 ⊢
        exact ⟨fun f _ => trivial, ih _ _ h2⟩
theorem regionIn_of_HB {l n id : Nat} {P : Program} {ops : Array Oper} {Q : Exit → Act → World → Prop} {a : Act} {w : World} (S : World → Prop) (hm : P.follows .mixedOrders = true) (hnd : ∀ (i : Nat) (o : Oper), ops[i]? = some o → ∀ c, o.op ≠ .defer c) (hlo : ¬ LetsOut Q)
    (hS : S w.drew) (h : S w.drew → wpAnyH P .any ops Q S ops.size (Array.replicate ops.size false) a w.drew) : (Code.region id ops true).wpIn (Fence.wide.inRound l) n P Q a w :=
  wpIn_region_any hm (anyIn_of_anyB hnd hlo _ _ _ _ (wpAny_of_held _ _ _ _ (h hS)))
def isDeferB (o : Oper) : Bool := match o.op with | .defer _ => true | _ => false
theorem no_deferB {ops : List Oper} (h : ops.all (fun o => !isDeferB o) = true) : ∀ (i : Nat) (o : Oper), ops.toArray[i]? = some o → ∀ c, o.op ≠ .defer c := by
  intro i o hi c hc
  have hm : o ∈ ops := by simpa using Array.mem_of_getElem? hi
  have := List.all_eq_true.1 h o hm
  simp [isDeferB, hc] at this
set_option maxRecDepth 100000 in
set_option maxHeartbeats 16000000 in
theorem needed_any (b k n cb ck : Nat) (l : List Nd) (p : List Int) (w : World) (h : NK w b k l p) (hok : netOk n l p = true) (U : Nat → Bool) (hU : usedT l p = U) :
    Calls Try.prog 72 #[.agg #[.int .i8 n, .slice (some ⟨b, 0, none⟩) l.length cb, .slice (some ⟨k, 0, none⟩) p.length ck]] w fun e w' => ∃ g, e = .returned (.slice (some ⟨g, 0, none⟩) l.length l.length) ∧ w.heap.size ≤ g ∧ TRow w' g l.length U ∧ Below w.heap.size w w' := by
  have hnp := netOk_parts hok
  have hl80 : 1 ≤ l.length ∧ l.length ≤ 80 := by omega
  have hp8 : 1 ≤ p.length ∧ p.length ≤ 8 := by omega
  have HR := Lib.hid (outsOkN_all hnp.2.2.2.2)
  have HN := Lib.hid (fun i (hi : i < l.length) => netOk_node hok i hi)
  obtain ⟨i0, hi0, hi1, hi2, hi3⟩ := info_parts info_boolB
  have Hi := Lib.hid hi0
  have Hi1 := Lib.hid hi1
  have Hi2 := Lib.hid hi2
  have Hi3 := Lib.hid hi3
  obtain ⟨N, hN⟩ : ∃ N, l.length = N := ⟨_, rfl⟩
  obtain ⟨q, hq⟩ : ∃ q, p.length = q := ⟨_, rfl⟩
  have Hn := Lib.hid hN
  have Hq := Lib.hid hq
  rw [hN] at hl80 HR ⊢
  rw [hq] at hp8 ⊢
  obtain ⟨W0, hW⟩ : ∃ W0, w.alloc (.cells #[.int .i8 n, .slice (some ⟨b, 0, none⟩) N cb, .slice (some ⟨k, 0, none⟩) q ck] 30) = W0 := ⟨_, rfl⟩
  have k0 : Below w.heap.size w W0 := by rw [← hW]; exact kAlloc (Below.refl _ _) _
  have bX : W0.heap[w.heap.size]? = some (.cells #[.int .i8 n, .slice (some ⟨b, 0, none⟩) N cb, .slice (some ⟨k, 0, none⟩) q ck] 30 (0, 0)) := by rw [← hW]; exact heap_alloc_new _ _
  have lw := blk_lt bX
  have HBX := Lib.hid (fun W (hW : Below W0.heap.size W0 W) => blk_below bX hW)
  have HK := Lib.hid (fun W (hW : Below W0.heap.size W0 W) => h.below (kTrans k0 hW))
  have HK0 := Lib.hid k0
  have HW := Lib.hid hW
  have lb0 : b < W0.heap.size := Nat.lt_of_lt_of_le h.z0 k0.size
  have lk0 : k < W0.heap.size := Nat.lt_of_lt_of_le h.z1 k0.size
  obtain ⟨U1, hU1⟩ : ∃ U1, outsT p (fun _ => false) = U1 := ⟨_, rfl⟩
  have HU1 : Hid (outsT (p.drop 0) (fun _ => false) = U1) := Lib.hid hU1
  have hle : N ≤ l.length := Nat.le_of_eq hN.symm
  have HUU : Hid ((backL l N hle).foldl stepB U1 = U) := Lib.hid (by rw [← hU]; unfold usedT; rw [hU1]; subst hN; rw [backT_fold l l.length (Nat.le_refl _)])
  have x1 : W0.cell? ⟨w.heap.size, 1, none⟩ = some (.slice (some ⟨b, 0, none⟩) N cb) := cell_of_row _ _ 1 _ _ _ bX
  clear h hok hN hq hU hU1 hW hnp hi0 hi1 hi2 hi3 bX k0
  refine (callsIn_wide (n := 8)).1 ?_
  refine callsIn_of_wp_marks Try.func72 rfl trivial ?_ rfl
  simp only [Try.ntmps72, List.size_toArray, List.length_cons, List.length_nil, Nat.reduceAdd, Nat.reduceSub, Array.replicate_succ, Array.replicate_zero, List.push_toArray, List.append_toArray, List.nil_append, List.cons_append]
  refine wpIn_wide.2 ?_
  go_upto_region 1 with fail
  try rw [HW.out]
  go_wp2_with (refine wpList_make_full _ rfl _ _ 103 rfl W0.heap.size 4 i0 _ 1 Try.underlying103 Hi.out Hi1.out Hi2.out _ _ _ _ N rfl rfl rfl rfl ?c1 ?c2 ?c3 ?_)
  case c1 => rw [Hi3.out]; omega
  case c2 => unfold maxLen; omega
  case c3 => exact Nat.le_refl _
  intro w1 hown hgr
  have hT0 := trow_made hown
  have hB1 : Below W0.heap.size W0 w1 := (Below.refl _ _).grown hgr (Nat.le_refl _) (by intro k hk; cases hk)
  obtain ⟨g1, hg1⟩ : ∃ g1, W0.heap.size = g1 := ⟨_, rfl⟩
  have Hg1 := Lib.hid (Nat.le_of_eq hg1)
  have lg1 : w.heap.size < g1 := by omega
  rw [hg1] at hT0 lb0 lk0 ⊢
  obtain ⟨W2, hW2⟩ : ∃ W2, w1.alloc (.cells #[.slice (some ⟨g1, 0, none⟩) N N] 103) = W2 := ⟨_, rfl⟩
  have k2 : Below w1.heap.size w1 W2 := by rw [← hW2]; exact kAlloc (Below.refl _ _) _
  have bD : W2.heap[w1.heap.size]? = some (.cells #[.slice (some ⟨g1, 0, none⟩) N N] 103 (0, 0)) := by rw [← hW2]; exact heap_alloc_new _ _
  have HD0 := Lib.hid bD
  have HT0 := Lib.hid (hT0.below k2)
  have HB0 := Lib.hid (kTrans hB1 k2)
  have HW2 := Lib.hid hW2
  have lg2 := hT0.lt
  have y0 := (HBX.out _ HB0.out)
  have x2 : W2.cell? ⟨w.heap.size, 2, none⟩ = some (.slice (some ⟨k, 0, none⟩) q ck) := cell_of_row _ _ 2 _ _ _ y0
  have ly := blk_lt y0
  clear x1 hown hgr hT0 hB1 hg1 k2 bD hW2 HW y0
  go_upto_region 2 with fail
  try rw [HW2.out]
  obtain ⟨D, hD⟩ : ∃ D, w1.heap.size = D := ⟨_, rfl⟩
  rw [hD] at HD0 lg2 ⊢
  clear HW2 hD
  go_wp2
  go_loopw [5, 15] (fun _ z wr => ∃ (j : Nat) (F : Nat → Bool), j ≤ q ∧ z = .int .i64 j ∧ Hid (outsT (p.drop j) F = U1) ∧ Hid (TRow wr g1 N F) ∧ Hid (wr.heap[D]? = some (.cells #[.slice (some ⟨g1, 0, none⟩) N N] 103 (0, 0))) ∧ Hid (Below W0.heap.size W0 wr)) (fun _ z _ => q - (intOf z).toNat)
  case atStart => exact ⟨0, _, by omega, rfl, HU1, HT0, HD0, HB0⟩
  case round =>
    clear HU1 HT0 HD0 HB0 x2 ly
    obtain ⟨j, F, hj, rfl, hf, hT, hD, hb⟩ := hrel
    have lD := blk_lt hD.out
    have d0 : wr.cell? ⟨D, 0, none⟩ = some (.slice (some ⟨g1, 0, none⟩) N N) := cell_of_row _ _ 0 _ _ _ hD.out
    by_cases hlt : j < q
    · have hlk : j < p.length := by rw [Hq.out]; exact hlt
      have cp := (HK.out wr hb.out).p1 j hlk
      have zk := (HK.out wr hb.out).z1
      have hr := HR.out _ (List.getElem_mem hlk)
      have hf2 := hf.out
      rw [outsT_drop hlk] at hf2
      generalize p[j] = x at cp hr hf2
      simp only [Nat.zero_add] at cp
      obtain ⟨kx, rfl⟩ : ∃ kx : Nat, x = kx := ⟨x.toNat, by omega⟩
      rw [Int.toNat_natCast] at hf2
      have hkN : kx < N := by omega
      have HF := Lib.hid hf2
      have cb := hT.out.at_ kx hkN
      have fz := hT.out.fz kx
      have gl := hT.out.lt
      have HT2 := Lib.hid (hT.out.put (x := true) hkN)
      have HB2 := Lib.hid (kSet hb.out (p := ⟨g1, kx, none⟩) Hg1.out (.bool true))
      have HD2 := Lib.hid (blk_set (p := ⟨g1, kx, none⟩) (v := .bool true) hD.out (show D ≠ g1 by omega))
      clear hf hf2 hT hb hD
      go_wp2
      exact ⟨⟨j + 1, _, by omega, by go_num, HF, HT2, HD2, HB2⟩, by simp [intOf] <;> omega⟩
    · obtain rfl : j = q := by omega
      obtain rfl : F = U1 := by rw [← hf.out, outsT_end (by rw [Hq.out]; exact Nat.le_refl _)]
      have y0 := (HBX.out _ hb.out)
      have x1 : wr.cell? ⟨w.heap.size, 1, none⟩ = some (.slice (some ⟨b, 0, none⟩) N cb) := cell_of_row _ _ 1 _ _ _ y0
      have ly := blk_lt y0
      clear hf y0
      go_wp2_with fail
      refine (back_any (some ⟨b, 0, none⟩) N cb _).mono ?_
      rintro e w7 ⟨rfl, rfl⟩
      go_wp2
      refine (wpIn_wide (n := 8)).1 ?_
      obtain ⟨W4, hW4⟩ : ∃ W4, wr.alloc (.cells #[.slice (some ⟨b, 0, none⟩) N cb] 28) = W4 := ⟨_, rfl⟩
      have k4 : Below wr.heap.size wr W4 := by rw [← hW4]; exact kAlloc (Below.refl _ _) _
      have hsz4 : W4.heap.size = wr.heap.size + 1 := by rw [← hW4]; simp
      have bG : W4.heap[wr.heap.size]? = some (.cells #[.slice (some ⟨b, 0, none⟩) N cb] 28 (0, 0)) := by rw [← hW4]; exact heap_alloc_new _ _
      rw [hW4]
      have HB4 := Lib.hid (kTrans hb.out k4)
      have HT4 := hT.out.below k4
      have HD4 := Lib.hid (blk_below hD.out k4)
      have hpn := (HK.out W4 HB4.out).p0
      have lbw : b < wr.heap.size := (HK.out wr hb.out).z0
      have lg4 := hT.out.lt
      have hgb : g1 ≠ b := by omega
      clear hW4 hT hD hb x1 d0 k4
      obtain ⟨Bg, hBg⟩ : ∃ Bg, wr.heap.size = Bg := ⟨_, rfl⟩
      rw [hBg] at hsz4 bG lbw lg4 lD ⊢
      clear hBg
      refine wpIn_rangeFunc_ownH rfl (by omega) (gf := 82) (lb := #[.pointer (some ⟨Bg, 0, none⟩)]) rfl trivial enters_back
        (back_stops (fun i => i = Bg ∨ i = b) 7 (by omega) Bg b N cb l Hn.out hle (by omega) W4 bG hpn (.inl rfl) (.inr rfl) (fun i hi => by rcases hi with rfl | rfl <;> omega)) KB.trans
        (fun W l o o' hl ho _ _ => ⟨(grownBy_putObj' W l o').size, fun i hi => (grownBy_putObj' W l o').block i (by have := blk_lt ho; rcases hi with rfl | rfl <;> omega) (fun e => by cases e; rcases hi with rfl | rfl <;> omega)⟩)
        (Below.refl _ _) (fun _ => rfl)
        (fun (pre : List (NB l)) Wx => TRow Wx g1 N (pre.foldl stepB F) ∧ W4.grownBy Wx (some g1))
        (fun _ _ _ => False)
        (OwnFrom.and (trow_own (by omega) (fun pre : List (NB l) => pre.foldl stepB F)) (grown_ownB (Nat.le_refl _)))
        (fun _ _ _ _ _ hs _ _ => hs)
        ⟨HT4, ⟨rfl, rfl, rfl, Nat.le_refl _, fun _ _ _ => rfl⟩⟩
        (fun x a' Wx => ∃ Bx, W4.heap.size ≤ Bx ∧ Wx.heap[Bx]? = some (.cells #[.int .i8 (ndOf x).kind, .int .i16 (ndOf x).a, .int .i16 (ndOf x).b] 48 (0, 0)) ∧ a' = { tmps := #[.agg #[.int .i8 n, .slice (some ⟨b, 0, none⟩) N cb, .slice (some ⟨k, 0, none⟩) j ck], .pointer (some ⟨w.heap.size, 0, none⟩), .slice none 0 0, .pointer (some ⟨D, 0, none⟩), undef, u5, .int .i64 (x.1 : Int), .pointer (some ⟨Bx, 0, none⟩), .pointer (some ⟨w.heap.size, 1, none⟩), .slice (some ⟨b, 0, none⟩) N cb, .int .i64 N, .slice (some ⟨g1, 0, none⟩) N N, .pointer (some ⟨w.heap.size, 2, none⟩), .slice (some ⟨k, 0, none⟩) j ck, .int .i64 j, .int .i64 j, .bool false, u17, u18, u19, u20, u21, u22, .pointer (some ⟨w.heap.size, 1, none⟩), .slice (some ⟨b, 0, none⟩) N cb, .func (.func 82) #[] #[.pointer (some ⟨Bg, 0, none⟩)], .int .i64 (x.1 : Int), .agg #[.int .i8 (ndOf x).kind, .int .i16 (ndOf x).a, .int .i16 (ndOf x).b], undef, undef, undef, undef, undef, undef, undef, undef, undef, undef, undef, undef, undef, undef, undef, undef, undef], defers := [] })
        ?ax ?assign ?body ?done ?stop
      case ax =>
        rintro x a' s X Y row ⟨Bx, h1, h2, h3⟩ hg hr
        refine ⟨Bx, h1, (hg.block Bx (blk_lt h2) (fun e => ?_)).trans h2, h3⟩
        obtain ⟨_, o, ho, hoc⟩ := hr _ e.symm
        rw [h2] at ho; cases ho; cases hoc
      case assign =>
        rintro lp pre x Wx K hi hK
        have HK9 := Lib.hid hK
        have HI := Lib.hid hi
        have hgs := hi.2.size
        clear hK hi
        unfold encB
        gi_wp2
        have kA : Below Wx.heap.size Wx (Wx.alloc (.cells #[.int .i8 (ndOf x).kind, .int .i16 (ndOf x).a, .int .i16 (ndOf x).b] 48)) := kAlloc (Below.refl _ _) _
        obtain ⟨h1, h3⟩ := HI.out
        exact HK9.out _ _ ((KeepsOthers.alloc _ _).from _) (KB.of_below (fun i hi => by rcases hi with rfl | rfl <;> omega) kA) ⟨h1.below kA, ⟨h3.os, h3.tape, h3.output, Nat.le_trans h3.size kA.size, fun i hi hne => (kA.block i (Nat.lt_of_lt_of_le hi h3.size)).trans (h3.block i hi hne)⟩⟩ ⟨Wx.heap.size, hgs, heap_alloc_new _ _, rfl⟩
      case body =>
        rintro lp pre x a' Wx hlp _ ⟨hT, hg⟩ ⟨Bx, hBx, hcx, rfl⟩ hlt
        have hxl : x.1 < l.length := x.2
        have hxi : x.1 < N := by rw [← Hn.out]; exact hxl
        obtain ⟨F', hF'⟩ : ∃ F', pre.foldl stepB F = F' := ⟨_, rfl⟩
        have hstep : (pre ++ [x]).foldl stepB F = stepB F' x := by rw [List.foldl_append, hF']; rfl
        have HST := Lib.hid hstep
        rw [hF'] at hT
        have hszW : W4.heap.size ≤ Wx.heap.size := hg.size
        have bDW := (hg.block D (by omega) (by intro e; injection e with e; omega)).trans HD4.out
        have d0 : Wx.cell? ⟨D, 0, none⟩ = some (.slice (some ⟨g1, 0, none⟩) N N) := cell_of_row _ _ 0 _ _ _ bDW
        have lD2 := blk_lt bDW
        have n0 : Wx.cell? ⟨Bx, 0, none⟩ = some (.int .i8 (ndOf x).kind) := cell_of_row _ _ 0 _ _ _ hcx
        have n1 : Wx.cell? ⟨Bx, 1, none⟩ = some (.int .i16 (ndOf x).a) := cell_of_row _ _ 1 _ _ _ hcx
        have n2 : Wx.cell? ⟨Bx, 2, none⟩ = some (.int .i16 (ndOf x).b) := cell_of_row _ _ 2 _ _ _ hcx
        have lx := blk_lt hcx
        have cb := hT.at_ x.1 hxi
        have gl := hT.lt
        have hno := HN.out x.1 hxl
        rw [ndOf_at] at hno
        have HT := Lib.hid hT
        have HGR := Lib.hid hg
        have HCX := Lib.hid hcx
        have HDW := Lib.hid bDW
        clear hstep hF' hT hg hcx bDW hlt
        by_cases hu : F' x.1 = true
        · rw [hu] at cb
          by_cases hk2 : (ndOf x).kind = 2 ∨ (ndOf x).kind = 3
          · have HG9 := Lib.hid (fun W => gate_any (ndOf x) W true (by simp [hk2]))
            have HSN : Hid ((pre ++ [x]).foldl stepB F = useT (ndOf x) F') := Lib.hid (by rw [HST.out]; unfold stepB; rw [if_pos ⟨hu, by omega⟩])
            gi_wp2_with fail
            repeat (rw [Oper.semAt_eq _ _ _ (fun c h => by cases h)]; go_simp; try gi_wp2_with fail)
            refine ⟨trivial, (CallsIn.inRound _ (callsIn_wide.2 (HG9.out _))).mono ?_⟩
            rintro e w5 ⟨rfl, hb5⟩
            obtain ⟨a, ha⟩ : ∃ a : Nat, (ndOf x).a = a := ⟨(ndOf x).a.toNat, by rcases nodeOk_cases hno with h | h | h <;> omega⟩
            obtain ⟨c, hc⟩ : ∃ c : Nat, (ndOf x).b = c := ⟨(ndOf x).b.toNat, by rcases nodeOk_cases hno with h | h | h <;> omega⟩
            have haN : a < N := by rcases nodeOk_cases hno with h | h | h <;> omega
            have hcN : c < N := by rcases nodeOk_cases hno with h | h | h <;> omega
            have hT5 := HT.out.below hb5
            have hD5 := blk_below HDW.out hb5
            have hX5 := blk_below HCX.out hb5
            have HU5 : Hid ((pre ++ [x]).foldl stepB F = putF (putF F' a true) c true) := Lib.hid (by rw [HSN.out]; unfold useT; rw [ha, hc]; rfl)
            rw [ha, hc] at hX5
            rw [ha, hc]
            have n1 : w5.cell? ⟨Bx, 1, none⟩ = some (.int .i16 (a : Int)) := cell_of_row _ _ 1 _ _ _ hX5
            have n2 : w5.cell? ⟨Bx, 2, none⟩ = some (.int .i16 (c : Int)) := cell_of_row _ _ 2 _ _ _ hX5
            have d0 : w5.cell? ⟨D, 0, none⟩ = some (.slice (some ⟨g1, 0, none⟩) N N) := cell_of_row _ _ 0 _ _ _ hD5
            have ca := hT5.at_ a haN
            have cc := hT5.at_ c hcN
            have fa := hT5.fz a
            have fc := hT5.fz c
            have gl5 := hT5.lt
            have lx5 := blk_lt hX5
            have ld5 := blk_lt hD5
            have HT1 := Lib.hid (hT5.put (x := true) haN)
            have HKK := Lib.hid hb5
            clear n0 cb gl lx lD2 hT5 hD5 hX5 hb5 HG9 hno hu hk2 ha hc
            try clear n1_1 n2_1 d0_1
            gi_wp2_with fail
            have hmx : Try.prog.follows .mixedOrders = true := by kernel_rfl
            refine regionIn_of_HB (fun W' => W'.cell? ⟨D, 0, none⟩ = some (.slice (some ⟨g1, 0, none⟩) N N) ∧ W'.cell? ⟨Bx, 1, none⟩ = some (.int .i16 (a : Int)) ∧ W'.cell? ⟨Bx, 2, none⟩ = some (.int .i16 (c : Int))) hmx (no_deferB (by kernel_rfl)) (fun h => by obtain ⟨_, _, h⟩ := h; exact h) ⟨d0, n1, n2⟩ (fun hHeld => ?_)
            refine wpAnyH_take (i := 0) (v := .slice (some ⟨g1, 0, none⟩) N N) rfl (by kernel_rfl) (by kernel_rfl) (by kernel_rfl) (fun _ _ _ h => h) (Or.inl ⟨by rfl, fun w7 hSw => ?_⟩) (by assumption) ?_
            · clear d0 n1 n2
              obtain ⟨d0, n1, n2⟩ := hSw
              go_simp
            try simp only [Act.put, List.setIfInBounds_toArray, List.set_cons_zero, List.set_cons_succ]
            refine wpAnyH_take (i := 1) (v := .pointer (some ⟨Bx, 1, none⟩)) rfl (by kernel_rfl) (by kernel_rfl) (by kernel_rfl) (fun _ _ _ h => h) (Or.inl ⟨by rfl, fun w7 hSw => ?_⟩) (by assumption) ?_
            · clear d0 n1 n2
              obtain ⟨d0, n1, n2⟩ := hSw
              go_simp
            try simp only [Act.put, List.setIfInBounds_toArray, List.set_cons_zero, List.set_cons_succ]
            refine wpAnyH_take (i := 2) (v := .int .i16 (a : Int)) rfl (by kernel_rfl) (by kernel_rfl) (by kernel_rfl) (fun _ _ _ h => h) (Or.inl ⟨by rfl, fun w7 hSw => ?_⟩) (by assumption) ?_
            · clear d0 n1 n2
              obtain ⟨d0, n1, n2⟩ := hSw
              go_simp
            try simp only [Act.put, List.setIfInBounds_toArray, List.set_cons_zero, List.set_cons_succ]
            refine wpAnyH_take (i := 3) (v := .slice (some ⟨g1, 0, none⟩) N N) rfl (by kernel_rfl) (by kernel_rfl) (by kernel_rfl) (fun _ _ _ h => h) (Or.inl ⟨by rfl, fun w7 hSw => ?_⟩) (by assumption) ?_
            · clear d0 n1 n2
              obtain ⟨d0, n1, n2⟩ := hSw
              go_simp
            try simp only [Act.put, List.setIfInBounds_toArray, List.set_cons_zero, List.set_cons_succ]
            refine wpAnyH_take (i := 4) (v := .pointer (some ⟨Bx, 2, none⟩)) rfl (by kernel_rfl) (by kernel_rfl) (by kernel_rfl) (fun _ _ _ h => h) (Or.inl ⟨by rfl, fun w7 hSw => ?_⟩) (by assumption) ?_
            · clear d0 n1 n2
              obtain ⟨d0, n1, n2⟩ := hSw
              go_simp
            try simp only [Act.put, List.setIfInBounds_toArray, List.set_cons_zero, List.set_cons_succ]
            refine wpAnyH_take (i := 5) (v := .int .i16 (c : Int)) rfl (by kernel_rfl) (by kernel_rfl) (by kernel_rfl) (fun _ _ _ h => h) (Or.inl ⟨by rfl, fun w7 hSw => ?_⟩) (by assumption) ?_
            · clear d0 n1 n2
              obtain ⟨d0, n1, n2⟩ := hSw
              go_simp
            try simp only [Act.put, List.setIfInBounds_toArray, List.set_cons_zero, List.set_cons_succ]
            refine wpAnyH_take (i := 6) (v := .pointer (some ⟨g1, a, none⟩)) rfl (by kernel_rfl) (by kernel_rfl) (by kernel_rfl) (fun _ _ _ h => h) (Or.inl ⟨by rfl, fun w7 hSw => ?_⟩) (by assumption) ?_
            · clear d0 n1 n2
              obtain ⟨d0, n1, n2⟩ := hSw
              go_simp
            try simp only [Act.put, List.setIfInBounds_toArray, List.set_cons_zero, List.set_cons_succ]
            refine wpAnyH_ready (rs := [7]) (by kernel_rfl) (by simp) ?_
            refine AllReadyH.cons rfl (fun K hK => ?_) AllReadyH.nil
            go_simp
            refine hK.out _ _ (⟨(World.cell?_setCell_far _ _ _ _ (show g1 ≠ D by omega)).trans d0, (World.cell?_setCell_far _ _ _ _ (show g1 ≠ Bx by omega)).trans n1, (World.cell?_setCell_far _ _ _ _ (show g1 ≠ Bx by omega)).trans n2⟩) (fun hHeld => ?_)
            clear hK K
            have hT6 : TRow (w5.setCell ⟨g1, a, none⟩ (.bool true)).drew g1 N (putF F' a true) := ⟨HT1.out.lt, HT1.out.at_, HT1.out.fz⟩
            have hs6 : w5.heap.size ≤ (w5.setCell ⟨g1, a, none⟩ (.bool true)).drew.heap.size := by simp [World.setCell, World.drew]
            have hk6 : ∀ i, i ≠ g1 → (w5.setCell ⟨g1, a, none⟩ (.bool true)).drew.heap[i]? = w5.heap[i]? := fun i hi => Below.heap_setCell w5 _ _ _ hi
            have ho6 : (w5.setCell ⟨g1, a, none⟩ (.bool true)).drew.os = w5.os ∧ (w5.setCell ⟨g1, a, none⟩ (.bool true)).drew.tape = w5.tape ∧ (w5.setCell ⟨g1, a, none⟩ (.bool true)).drew.output = w5.output := ⟨rfl, rfl, rfl⟩
            generalize (w5.setCell ⟨g1, a, none⟩ (.bool true)).drew = w6 at hT6 hs6 hk6 ho6 hHeld ⊢
            clear d0 n1 n2 ca cc fa fc gl5 HT1
            obtain ⟨d0, n1, n2⟩ := id hHeld
            have cc := hT6.at_ c hcN
            have fc := hT6.fz c
            have gl5 := hT6.lt
            have HT7 := Lib.hid (hT6.put (x := true) hcN)
            have HS6 := Lib.hid hs6
            have HK6 := Lib.hid hk6
            have HO6 := Lib.hid ho6
            clear hT6 hs6 hk6 ho6
            refine wpAnyH_take (i := 8) (v := .pointer (some ⟨g1, c, none⟩)) rfl (by kernel_rfl) (by kernel_rfl) (by kernel_rfl) (fun _ _ _ h => h) (Or.inl ⟨by rfl, fun w7 hSw => ?_⟩) (by assumption) ?_
            · clear d0 n1 n2
              obtain ⟨d0, n1, n2⟩ := hSw
              go_simp
            try simp only [Act.put, List.setIfInBounds_toArray, List.set_cons_zero, List.set_cons_succ]
            refine wpAnyH_ready (rs := [9]) (by kernel_rfl) (by simp) ?_
            refine AllReadyH.cons rfl (fun K hK => ?_) AllReadyH.nil
            go_simp
            refine hK.out _ _ (by obtain ⟨d0, n1, n2⟩ := hHeld; exact ⟨(World.cell?_setCell_far _ ⟨g1, c, none⟩ _ (.bool true) (show g1 ≠ D by omega)).trans d0, (World.cell?_setCell_far _ ⟨g1, c, none⟩ _ (.bool true) (show g1 ≠ Bx by omega)).trans n1, (World.cell?_setCell_far _ ⟨g1, c, none⟩ _ (.bool true) (show g1 ≠ Bx by omega)).trans n2⟩) (fun hHeld => ?_)
            clear hK K
            refine wpAnyH_done (by kernel_rfl) ?_ _
            clear hHeld d0 n1 n2 cc fc
            gi_wp2
            repeat (rw [Oper.semAt_eq _ _ _ (fun c h => by cases h)]; go_simp; try gi_wp2)
            have hsz7 : Wx.heap.size ≤ (w6.setCell ⟨g1, c, none⟩ (.bool true)).heap.size := by simpa [World.setCell] using Nat.le_trans HKK.out.size HS6.out
            have hlo : ∀ i, i < Wx.heap.size → i ≠ g1 → (w6.setCell ⟨g1, c, none⟩ (.bool true)).heap[i]? = Wx.heap[i]? := fun i hi hne => (Below.heap_setCell w6 _ _ _ hne).trans ((HK6.out i hne).trans (HKK.out.block i hi))
            refine ⟨⟨hsz7, fun i o hiB hi ho => ?_⟩, ⟨hsz7, fun i hi => ?_⟩, ?_, ?_⟩
            · exact (hlo i (blk_lt hi) (fun e => by rw [e] at hi; exact (by omega : False))).trans hi
            · rcases hi with rfl | rfl
              · exact hlo _ (by omega) (by omega)
              · exact hlo _ (by omega) (fun e => hgb e.symm)
            · rw [HU5.out]; exact HT7.out
            · exact ⟨HO6.out.1.trans (HKK.out.os.trans HGR.out.os), HO6.out.2.1.trans (HKK.out.tape.trans HGR.out.tape), HO6.out.2.2.trans (HKK.out.output.trans HGR.out.output), Nat.le_trans hszW hsz7, fun i hi hne => (hlo i (Nat.lt_of_lt_of_le hi hszW) (fun e => hne (by rw [e]))).trans (HGR.out.block i hi hne)⟩
          · have HG9 := Lib.hid (fun W => gate_any (ndOf x) W false (by simp [hk2]))
            have HSN : Hid ((pre ++ [x]).foldl stepB F = F') := Lib.hid (by rw [HST.out]; unfold stepB; rw [if_neg (fun e => by rcases nodeOk_cases hno with h | h | h <;> omega)])
            gi_wp2_with fail
            repeat (rw [Oper.semAt_eq _ _ _ (fun c h => by cases h)]; go_simp; try gi_wp2_with fail)
            refine ⟨trivial, (CallsIn.inRound _ (callsIn_wide.2 (HG9.out _))).mono ?_⟩
            rintro e w5 ⟨rfl, hb5⟩
            have HKK := Lib.hid hb5
            clear hb5
            gi_wp2
            repeat (rw [Oper.semAt_eq _ _ _ (fun c h => by cases h)]; go_simp; try gi_wp2)
            have hsz7 : Wx.heap.size ≤ w5.heap.size := HKK.out.size
            have hlo : ∀ i, i < Wx.heap.size → w5.heap[i]? = Wx.heap[i]? := fun i hi => HKK.out.block i hi
            refine ⟨⟨hsz7, fun i o hiB hi ho => ?_⟩, ⟨hsz7, fun i hi => ?_⟩, ?_, ?_⟩
            · exact (hlo i (blk_lt hi)).trans hi
            · rcases hi with rfl | rfl
              · exact hlo _ (by omega)
              · exact hlo _ (by omega)
            · rw [HSN.out]; exact HT.out.below HKK.out
            · exact ⟨HKK.out.os.trans HGR.out.os, HKK.out.tape.trans HGR.out.tape, HKK.out.output.trans HGR.out.output, Nat.le_trans hszW hsz7, fun i hi hne => (hlo i (Nat.lt_of_lt_of_le hi hszW)).trans (HGR.out.block i hi hne)⟩
        · have hu2 : F' x.1 = false := by simpa using hu
          rw [hu2] at cb
          have HSN : Hid ((pre ++ [x]).foldl stepB F = F') := Lib.hid (by rw [HST.out]; unfold stepB; rw [if_neg (fun e => hu e.1)])
          gi_wp2
          repeat (rw [Oper.semAt_eq _ _ _ (fun c h => by cases h)]; go_simp; try gi_wp2)
          refine ⟨trivial, ?_⟩
          gi_wp2
          repeat (rw [Oper.semAt_eq _ _ _ (fun c h => by cases h)]; go_simp; try gi_wp2)
          refine ⟨⟨Nat.le_refl _, fun i o hiB hi ho => ?_⟩, ⟨Nat.le_refl _, fun i hi => ?_⟩, ?_, ?_⟩
          · exact hi
          · rcases hi with rfl | rfl
            · rfl
            · rfl
          · rw [HSN.out]; exact HT.out
          · exact HGR.out
      case done =>
        rintro D9 zs Wx hDD rfl ⟨hT, hg⟩ hK
        have hUd : (backL l N hle).foldl stepB F = U := HUU.out
        rw [hUd] at hT
        have bDW := (hg.block D (by omega) (by intro e; injection e with e; omega)).trans HD4.out
        have hBW : Below W0.heap.size W0 Wx := HB4.out.grown hg HB4.out.size (fun j e => by cases e; exact Hg1.out)
        have hg9 := grownBy_putObj' Wx D9 (.deferred none)
        have hD9 : W4.heap.size ≤ D9 := hDD
        have d9 := (hg9.block D (blk_lt bDW) (by intro e; injection e with e; omega)).trans bDW
        have HT9 := Lib.hid (hT.of_block hg9.size (hg9.block g1 hT.lt (by intro e; injection e with e; omega)))
        have HB9 := Lib.hid (kTrans HK0.out (hBW.grown hg9 hBW.size (fun j e => by cases e; have := HB4.out.size; omega)))
        have c9 : (Wx.putObj D9 (.deferred none)).cell? ⟨D, 0, none⟩ = some (.slice (some ⟨g1, 0, none⟩) N N) := cell_of_row _ _ 0 _ _ _ d9
        have d0 : Wx.cell? ⟨D, 0, none⟩ = some (.slice (some ⟨g1, 0, none⟩) N N) := cell_of_row _ _ 0 _ _ _ bDW
        have lD9 := blk_lt bDW
        have HK9 := Lib.hid hK
        clear hT hg bDW hg9 d9 hK hBW hUd
        go_wp2
        refine ⟨by simp, .inl ⟨_, _, rfl, run_takeDeferred HK9.out, ?_⟩⟩
        exact ⟨.slice (some ⟨g1, 0, none⟩) N N, by simp [results, Try.results72, go_sem], g1, rfl, by omega, HT9.out, HB9.out⟩
      case stop =>
        rintro D c pre W _ _ h _
        exact h.elim
end Go.Proofs.Ytdnjamlibnmpfaa
