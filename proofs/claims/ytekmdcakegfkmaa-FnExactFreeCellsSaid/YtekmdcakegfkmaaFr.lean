/- FreeCells: the program's side. -/
import Derived.Test.YtekmdcakegfkmaaFc
namespace Go.Proofs.Ytekmdcakegfkmaa
open Go.ChangeShapes Go.WideShapes Go.ChangeAt Go.RowKit Go.Shelf Go.Joins Go.Deep
set_option linter.unusedVariables false
set_option linter.unusedSimpArgs false
attribute [local go_sem] Oper.semAt_some
theorem board_sides {wd hi : Int} {l : List Pc} (h : boardOk wd hi l = true) : (1 ≤ wd ∧ wd ≤ 24) ∧ (1 ≤ hi ∧ hi ≤ 24) := by
  unfold boardOk at h
  simp at h
  omega
theorem info_Clq : (Try.prog.info? 26).map (fun i => (i.zero, i.size, i.bytes)) = some (some (.agg #[.int .i8 0, .int .i8 0]), 2, 2) := by kernel_rfl
theorem own_neC {w : World} {base size k : Nat} {e : TypeId} {v : Value} {xs : List Value} (h : w.ownsRow base e size v k xs) {j : Nat} {o : Obj} (hj : w.heap[j]? = some o) (ho : o.isCells = false) : v.ownBlock ≠ some j := by
  rcases h.2 with ⟨rfl, _⟩ | ⟨g, cap, cur, rfl, hb, hgb, _⟩
  · simp [Value.ownBlock]
  · intro e'
    obtain rfl : g = j := by simpa [Value.ownBlock] using e'
    rw [hgb] at hj; cases hj; cases ho
theorem own_lowC {w : World} {base size k : Nat} {e : TypeId} {v : Value} {xs : List Value} (h : w.ownsRow base e size v k xs) {j : Nat} (hj : j < base) : v.ownBlock ≠ some j := by
  rcases h.2 with ⟨rfl, _⟩ | ⟨g, cap, cur, rfl, hb, hgb, _⟩
  · simp [Value.ownBlock]
  · intro e'
    obtain rfl : g = j := by simpa [Value.ownBlock] using e'
    omega
theorem nil_ownsC {w : World} {base size : Nat} {e : TypeId} : w.ownsRow base e size (.slice none 0 0) 0 [] := ⟨by simp, .inl ⟨rfl, rfl⟩⟩
def ClPost2 (L : List Cl) (C : Int) (w : World) (e : Ending) (w' : World) : Prop := ∃ v, e = .returned (.tuple #[v, .int .i64 C]) ∧ SlWCl w.heap.size w'.heap.size w' L v ∧ Below w.heap.size w w'
def fcQ (R : Bool) (wd hi : Int) (l : List Pc) : List Cl × Int := if R = true then (frC wd hi l (cellsC wd.toNat (wd.toNat * hi.toNat)), 0) else ([], 1)
theorem pair_FC {a c : List Cl} {b d : Int} (h : (a, b) = (c, d)) : a = c ∧ b = d := by injection h with h1 h2; exact ⟨h1, h2⟩
theorem fcQ_ok {R : Bool} {wd hi : Int} {l : List Pc} {L : List Cl} {C : Int} (hR : R = boardOk wd hi l) (h : fcQ R wd hi l = (L, C)) : ClsWf L ∧ L.length ≤ 1048576 := by
  unfold fcQ at h
  split at h
  · obtain ⟨rfl, rfl⟩ := pair_FC h
    refine ⟨frC_wf _ _ _ _, ?_⟩
    have h1 := frC_len wd hi l (cellsC wd.toNat (wd.toNat * hi.toNat))
    rw [cellsC_length] at h1
    have hs := board_sides (by rename_i h2; rw [← hR]; exact h2)
    have h2 : wd.toNat * hi.toNat ≤ 24 * 24 := Nat.mul_le_mul (by omega) (by omega)
    omega
  · obtain ⟨rfl, rfl⟩ := pair_FC h
    exact ⟨fun p hp => by simp at hp, by simp⟩
set_option maxRecDepth 100000 in
set_option maxHeartbeats 16000000 in
theorem implFreeCells_any (b n cap : Nat) (wd hi : Int) (l : List Pc) (w : World) (hn : l.length = n) (hp : PcsAt w b 0 l) (hb : b < w.heap.size) (hc : n ≤ cap) (h8 : All8 l) (bw : i8 wd) (bh : i8 hi) (hmax : n ≤ 1048576) (R : Bool) (hR : R = boardOk wd hi l) (L : List Cl) (C : Int) (hQ : fcQ R wd hi l = (L, C)) :
    Calls Try.prog 54 #[.agg #[.int .i8 wd, .int .i8 hi, .slice (some ⟨b, 0, none⟩) n cap]] w (ClPost2 L C w) := by
  obtain ⟨i0, hi0, hz0, hzz1, hzz2⟩ := info_parts info_Clq
  have Hi := Lib.hid hi0
  have Hz0 := Lib.hid hz0
  have Hz1 := Lib.hid hzz1
  have Hz2 := Lib.hid hzz2
  have ka : Below w.heap.size w (w.alloc (.cells #[.int .i8 wd, .int .i8 hi, .slice (some ⟨b, 0, none⟩) n cap] 74)) := by repeat (first | with_reducible exact Below.refl _ _ | (with_reducible refine kSet ?_ ?hB _; case hB => (simp; try omega)) | with_reducible refine kAlloc ?_ _ | with_reducible refine Below.drew ?_ | with_reducible refine kDrewN ?_ _ | with_reducible refine kTrans ?_ (by assumption))
  have HG := Lib.hid (groundOf_any b n cap wd hi l _ hn (hp.below ka hb) (Nat.lt_of_lt_of_le hb ka.size) hc h8 hmax R hR)
  have HRR := Lib.hid hR
  have HQ := Lib.hid hQ
  clear hn hp h8 hR hQ hi0 hz0 hzz1 hzz2
  cases R with
  | false =>
    obtain ⟨rfl, rfl⟩ := pair_FC (show (([] : List Cl), (1 : Int)) = (L, C) from HQ.out)
    clear HQ HRR
    refine (callsIn_wide (n := 8)).1 ?_
    refine callsIn_of_wp_marks Try.func54 rfl trivial ?_ rfl
    simp only [Try.ntmps54, List.size_toArray, List.length_cons, List.length_nil, Nat.reduceAdd, Nat.reduceSub, Array.replicate_succ, Array.replicate_zero, List.push_toArray, List.append_toArray, List.nil_append, List.cons_append]
    refine wpIn_wide.2 ?_
    go_wp2_with fail
    refine HG.out.mono ?_
    rintro e w1 ⟨_, h1, hb1⟩
    obtain rfl := h1 rfl
    have T1 := kTrans ka hb1
    clear HG h1 hb1
    go_wp2
    exact ⟨.tuple #[.slice none 0 0, .int .i64 1], by simp [results, Try.results54, go_sem], ⟨_, rfl, .empty _ _ rfl, by repeat (first | with_reducible exact Below.refl _ _ | (with_reducible refine kSet ?_ ?hB _; case hB => (simp; try omega)) | with_reducible refine kAlloc ?_ _ | with_reducible refine Below.drew ?_ | with_reducible refine kDrewN ?_ _ | with_reducible refine kTrans ?_ (by assumption))⟩⟩
  | true =>
    have hs := board_sides HRR.out.symm
    obtain ⟨W, rfl⟩ : ∃ W : Nat, wd = (W : Int) := ⟨wd.toNat, by omega⟩
    obtain ⟨H, rfl⟩ : ∃ H : Nat, hi = (H : Int) := ⟨hi.toNat, by omega⟩
    have hW : 1 ≤ W ∧ W ≤ 24 := by omega
    have hH : 1 ≤ H ∧ H ≤ 24 := by omega
    have hWH : W * H ≤ 576 := by
      have h2 : W * H ≤ 24 * 24 := Nat.mul_le_mul hW.2 hH.2
      omega
    have HQ1 := HQ.out
    unfold fcQ at HQ1
    rw [if_pos rfl] at HQ1
    simp only [Int.toNat_natCast] at HQ1
    obtain ⟨h1, rfl⟩ := pair_FC HQ1
    have HL := Lib.hid h1
    clear HQ HQ1 h1 HRR hs
    refine (callsIn_wide (n := 8)).1 ?_
    refine callsIn_of_wp_marks Try.func54 rfl trivial ?_ rfl
    simp only [Try.ntmps54, List.size_toArray, List.length_cons, List.length_nil, Nat.reduceAdd, Nat.reduceSub, Array.replicate_succ, Array.replicate_zero, List.push_toArray, List.append_toArray, List.nil_append, List.cons_append]
    refine wpIn_wide.2 ?_
    go_wp2_with fail
    refine HG.out.mono ?_
    rintro e w1 ⟨h1, _, hb1⟩
    obtain ⟨B, rfl, hmpB⟩ := h1 rfl
    have T1 := kTrans ka hb1
    have HMp := Lib.hid hmpB
    clear HG h1 hb1 hmpB
    go_wp2_with fail
    refine (cells_any (W : Int) (H : Int) B (.slice (some ⟨b, 0, none⟩) n cap) _).mono ?_
    rintro e w7 ⟨rfl, rfl⟩
    go_wp2
    refine (wpIn_wide (n := 8)).1 ?_
    obtain ⟨W0, hW0⟩ : ∃ W0, ((w1.alloc (.cells #[.int .i8 (W : Int), .int .i8 (H : Int), .map (some B), .int .i8 (W : Int), .int .i8 (H : Int), .slice (some ⟨b, 0, none⟩) n cap] 152)).alloc (.cells #[.slice none 0 0] 88)).alloc (.cells #[.int .i8 (W : Int), .int .i8 (H : Int), .map (some B), .int .i8 (W : Int), .int .i8 (H : Int), .slice (some ⟨b, 0, none⟩) n cap] 152) = W0 := ⟨_, rfl⟩
    have k0 : Below w1.heap.size w1 W0 := by rw [← hW0]; exact kAlloc (kAlloc (kAlloc (Below.refl _ _) _) _) _
    have hsz : W0.heap.size = w1.heap.size + 1 + 1 + 1 := by rw [← hW0]; simp
    have bD : W0.heap[w1.heap.size]? = some (.cells #[.int .i8 (W : Int), .int .i8 (H : Int), .map (some B), .int .i8 (W : Int), .int .i8 (H : Int), .slice (some ⟨b, 0, none⟩) n cap] 152 (0, 0)) := by
      rw [← hW0]; exact (Below.heap_alloc _ _ _ (by simp; omega)).trans ((Below.heap_alloc _ _ _ (by simp)).trans (heap_alloc_new _ _))
    have bV : Boxed W0 (w1.heap.size + 1) 88 (.slice none 0 0) := by
      rw [← hW0]
      have h := Boxed.new (w1.alloc (.cells #[.int .i8 (W : Int), .int .i8 (H : Int), .map (some B), .int .i8 (W : Int), .int .i8 (H : Int), .slice (some ⟨b, 0, none⟩) n cap] 152)) 88 (.slice none 0 0)
      rw [World.size_alloc] at h
      exact h.alloc _
    have bR : W0.heap[w1.heap.size + 1 + 1]? = some (.cells #[.int .i8 (W : Int), .int .i8 (H : Int), .map (some B), .int .i8 (W : Int), .int .i8 (H : Int), .slice (some ⟨b, 0, none⟩) n cap] 152 (0, 0)) := by
      rw [← hW0]
      have h := heap_alloc_new ((w1.alloc (.cells #[.int .i8 (W : Int), .int .i8 (H : Int), .map (some B), .int .i8 (W : Int), .int .i8 (H : Int), .slice (some ⟨b, 0, none⟩) n cap] 152)).alloc (.cells #[.slice none 0 0] 88)) (.cells #[.int .i8 (W : Int), .int .i8 (H : Int), .map (some B), .int .i8 (W : Int), .int .i8 (H : Int), .slice (some ⟨b, 0, none⟩) n cap] 152)
      simpa only [World.size_alloc] using h
    rw [hW0]
    have HBD := Lib.hid bD
    have HT0 := Lib.hid (kTrans T1 k0)
    have HK0 := Lib.hid k0
    have hT1 := T1.size
    clear hW0 bD T1 k0
    obtain ⟨f, hf⟩ : ∃ f, f = frC (W : Int) (H : Int) l := ⟨_, rfl⟩
    rw [← hf] at HL
    have HF := Lib.hid (fun (pre : List C24) (c : C24) => frC_snoc (W : Int) (H : Int) l pre c)
    have HFl := Lib.hid (fun (pre : List C24) => frC_len (W : Int) (H : Int) l pre)
    rw [← hf] at HF HFl
    have hf0 : f [] = [] := by rw [hf]; rfl
    have h00 : W0.ownsRow W0.heap.size 26 2 (.slice none 0 0) (f []).length (flatCl (f [])) := by rw [hf0]; exact nil_ownsC
    clear hf hf0
    refine wpIn_rangeFunc_ownH rfl (by omega) (gf := 121) (lb := #[.pointer (some ⟨w1.heap.size + 1 + 1, 0, none⟩)]) rfl trivial enters_cells
      (cells_stops (fun k => k = w1.heap.size + 1 + 1) 7 (by omega) (w1.heap.size + 1 + 1) B _ W H hW hH W0 bR rfl (fun k hk => by rw [hk, hsz]; omega)) KC.trans
      (fun W l o o' hl ho _ _ => ⟨(grownBy_putObj' W l o').size, fun k hk => (grownBy_putObj' W l o').block k (by have := blk_lt ho; rw [hk]; omega) (fun e => by cases e; omega)⟩)
      (Below.refl _ _) (fun _ => rfl)
      (fun (pre : List C24) Wx => (∃ v, Boxed Wx (w1.heap.size + 1) 88 v ∧ Wx.ownsRow W0.heap.size 26 2 v (f pre).length (flatCl (f pre)) ∧ True) ∧ W0.grownBy Wx (some (w1.heap.size + 1)))
      (fun _ _ _ => False)
      (OwnFrom.and (Own.from (holdsRow_own W0.heap.size (w1.heap.size + 1) 88 26 2 (fun (pre : List C24) => (f pre).length) (fun (pre : List C24) => flatCl (f pre)) (fun _ _ => True)) _) (grown_ownC (Nat.le_refl _)))
      (fun _ _ _ _ _ hs _ _ => hs)
      ⟨⟨_, bV, h00, trivial⟩, ⟨rfl, rfl, rfl, Nat.le_refl _, fun _ _ _ => rfl⟩⟩
      (fun x a' Wx => ∃ Bx, W0.heap.size ≤ Bx ∧ Wx.heap[Bx]? = some (.cells #[.int .i8 (x.x : Int), .int .i8 (x.y : Int)] 26 (0, 0)) ∧ a' = { tmps := #[.agg #[.int .i8 (W : Int), .int .i8 (H : Int), .slice (some ⟨b, 0, none⟩) n cap], .pointer (some ⟨w.heap.size, 0, none⟩), .slice none 0 0, .int .i64 0, .pointer (some ⟨w1.heap.size, 0, none⟩), .bool true, .pointer (some ⟨w1.heap.size + 1, 0, none⟩), .pointer (some ⟨Bx, 0, none⟩), .tuple #[.agg #[.int .i8 (W : Int), .int .i8 (H : Int), .map (some B), .int .i8 (W : Int), .int .i8 (H : Int), .slice (some ⟨b, 0, none⟩) n cap], .bool true], .agg #[.int .i8 (W : Int), .int .i8 (H : Int), .slice (some ⟨b, 0, none⟩) n cap], .tuple #[.agg #[.int .i8 (W : Int), .int .i8 (H : Int), .map (some B), .int .i8 (W : Int), .int .i8 (H : Int), .slice (some ⟨b, 0, none⟩) n cap], .bool true], .agg #[.int .i8 (W : Int), .int .i8 (H : Int), .map (some B), .int .i8 (W : Int), .int .i8 (H : Int), .slice (some ⟨b, 0, none⟩) n cap], .bool true, .bool true, .bool false, .agg #[.int .i8 (W : Int), .int .i8 (H : Int), .map (some B), .int .i8 (W : Int), .int .i8 (H : Int), .slice (some ⟨b, 0, none⟩) n cap], .func (.func 121) #[] #[.pointer (some ⟨w1.heap.size + 1 + 1, 0, none⟩)], .agg #[.int .i8 (x.x : Int), .int .i8 (x.y : Int)], undef, undef, undef, undef, undef, undef, undef, undef], defers := [] })
      ?ax
      ?assign ?body ?done ?stop
    case ax =>
      rintro x a' s X Y row ⟨Bx, h1, h2, h3⟩ hg hr
      refine ⟨Bx, h1, (hg.block Bx (blk_lt h2) (fun e => ?_)).trans h2, h3⟩
      obtain ⟨_, o, ho, hoc⟩ := hr _ e.symm
      rw [h2] at ho; cases ho; cases hoc
    case assign =>
      rintro lp pre x Wx K hi hK
      have HK := Lib.hid hK
      have HI := Lib.hid hi
      have hgs := hi.2.size
      clear hK hi
      unfold encC
      gi_wp2
      try rw [Oper.semAt_eq _ _ _ (fun c h => by cases h)]
      try go_simp
      try gi_wp2
      have kA : Below Wx.heap.size Wx (Wx.alloc (.cells #[.int .i8 (x.x : Int), .int .i8 (x.y : Int)] 26)) := kAlloc (Below.refl _ _) _
      obtain ⟨⟨v, h1, h2, _⟩, h3⟩ := HI.out
      exact HK.out _ _ ((KeepsOthers.alloc _ _).from _) (KC.of_below (fun k hk => by rw [hk]; omega) kA) ⟨⟨v, h1.alloc _, owns_below h2 kA, trivial⟩, ⟨h3.os, h3.tape, h3.output, Nat.le_trans h3.size kA.size, fun k hk hne => (kA.block k (Nat.lt_of_lt_of_le hk h3.size)).trans (h3.block k hk hne)⟩⟩ ⟨Wx.heap.size, hgs, heap_alloc_new _ _, rfl⟩
    case body =>
      rintro lp pre x a' Wx hlp _ ⟨⟨v, hv, hown, _⟩, hg⟩ ⟨Bx, hBx, hcx, rfl⟩ hlt
      obtain ⟨ua, uc, rfl⟩ := owns_slice hown
      have hszW : W0.heap.size ≤ Wx.heap.size := hg.size
      have bDW := (hg.block w1.heap.size (by omega) (by intro e; injection e with e; omega)).trans HBD.out
      have hx1 := x.hx
      have hx2 := x.hy
      have kW : Below w1.heap.size w1 Wx := (HK0.out).grown hg HK0.out.size (fun k e => by cases e; omega)
      obtain ⟨r, hr⟩ : ∃ r, r = freeB (W : Int) (H : Int) l (x.x : Int) (x.y : Int) := ⟨_, rfl⟩
      have HFR := Lib.hid (isFree_any (W : Int) (H : Int) (x.x : Int) (x.y : Int) B (.slice (some ⟨b, 0, none⟩) n cap) l Wx (HMp.out.below kW) ⟨by omega, by omega⟩ ⟨by omega, by omega⟩ ⟨by omega, by omega⟩ ⟨by omega, by omega⟩ r hr)
      have hsn := HF.out pre x
      rw [← hr] at hsn
      have cv := hv.cell
      have c0 : Wx.cell? ⟨w1.heap.size, 0, none⟩ = some (.int .i8 (W : Int)) := cell_of_row _ _ 0 _ _ _ bDW
      have c1 : Wx.cell? ⟨w1.heap.size, 1, none⟩ = some (.int .i8 (H : Int)) := cell_of_row _ _ 1 _ _ _ bDW
      have c2 : Wx.cell? ⟨w1.heap.size, 2, none⟩ = some (.map (some B)) := cell_of_row _ _ 2 _ _ _ bDW
      have c3 : Wx.cell? ⟨w1.heap.size, 3, none⟩ = some (.int .i8 (W : Int)) := cell_of_row _ _ 3 _ _ _ bDW
      have c4 : Wx.cell? ⟨w1.heap.size, 4, none⟩ = some (.int .i8 (H : Int)) := cell_of_row _ _ 4 _ _ _ bDW
      have c5 : Wx.cell? ⟨w1.heap.size, 5, none⟩ = some (.slice (some ⟨b, 0, none⟩) n cap) := cell_of_row _ _ 5 _ _ _ bDW
      have x0 : Wx.cell? ⟨Bx, 0, none⟩ = some (.int .i8 (x.x : Int)) := cell_of_row _ _ 0 _ _ _ hcx
      have x1 : Wx.cell? ⟨Bx, 1, none⟩ = some (.int .i8 (x.y : Int)) := cell_of_row _ _ 1 _ _ _ hcx
      have HV := Lib.hid hv
      have HOW := Lib.hid hown
      have HGR := Lib.hid hg
      have HCX := Lib.hid hcx
      have HLT := Lib.hid hlt
      have hpl := HFl.out pre
      have lx := blk_lt hcx
      have lD := blk_lt bDW
      clear hr hv hown hg hcx hlt kW bDW
      gi_wp2_with fail
      repeat (rw [Oper.semAt_eq _ _ _ (fun c h => by cases h)]; go_simp; try gi_wp2_with fail)
      refine ⟨trivial, (CallsIn.inRound _ (callsIn_wide.2 HFR.out)).mono ?_⟩
      rintro e w5 ⟨rfl, hb5⟩
      have HKK := Lib.hid hb5
      have hv5 : Boxed w5 (w1.heap.size + 1) 88 (.slice ua (f pre).length uc) := blk_below HV.out hb5
      have hcx5 := blk_below HCX.out hb5
      have HOW5 := Lib.hid (owns_below HOW.out hb5)
      have hs5 := hb5.size
      have cv5 := hv5.cell
      have cf5 := hv5.frozen
      have y0 : w5.cell? ⟨Bx, 0, none⟩ = some (.int .i8 (x.x : Int)) := cell_of_row _ _ 0 _ _ _ hcx5
      have y1 : w5.cell? ⟨Bx, 1, none⟩ = some (.int .i8 (x.y : Int)) := cell_of_row _ _ 1 _ _ _ hcx5
      have HV5 := Lib.hid hv5
      clear HFR hb5 hv5 hcx5 cv c0 c1 c2 c3 c4 c5 x0 x1
      cases r with
      | false =>
        have HSN : Hid (f (pre ++ [x]) = f pre) := Lib.hid (by rw [hsn]; rfl)
        clear hsn cv5 cf5 y0 y1
        gi_wp2
        repeat (rw [Oper.semAt_eq _ _ _ (fun c h => by cases h)]; go_simp; try gi_wp2)
        refine ⟨⟨hs5, fun k o hkB hk ho => (HKK.out.block k (blk_lt hk)).trans hk⟩, ⟨hs5, fun k hk => HKK.out.block k (by rw [hk]; omega)⟩, ⟨_, HV5.out, ?_, trivial⟩, ?_⟩
        · rw [HSN.out]; exact HOW5.out
        · exact ⟨HKK.out.os.trans HGR.out.os, HKK.out.tape.trans HGR.out.tape, HKK.out.output.trans HGR.out.output, Nat.le_trans hszW hs5, fun k hk hne => (HKK.out.block k (Nat.lt_of_lt_of_le hk hszW)).trans (HGR.out.block k hk hne)⟩
      | true =>
        have HSN : Hid (f (pre ++ [x]) = f pre ++ [x.cl]) := Lib.hid (by rw [hsn]; rfl)
        obtain ⟨A, hA⟩ : ∃ A, f pre = A := ⟨_, rfl⟩
        rw [hA] at HSN HOW5 HV5 cv5 HV HOW hpl
        have hpl2 : A.length ≤ 576 := by have := HLT.out; omega
        clear hsn hA hpl
        gi_wp2_with (gi_at_builtin
                     refine wpListIn_append_own _ rfl _ _ 88 rfl W0.heap.size 26 i0 _ 2 2 Try.underlying88 Hi.out Hz0.out Hz1.out Hz2.out rfl (by decide) (.slice ua A.length uc) A.length (flatCl A) rfl (owns_below HOW5.out (kAlloc (Below.refl _ _) _)) ⟨w5.heap.size, 0, none⟩ 1 1 [.int .i8 (x.x : Int), .int .i8 (x.y : Int)] rfl rfl (World.news_of_block (cs := #[.int .i8 (x.x : Int), .int .i8 (x.y : Int)]) (heap_alloc_new _ _)) (by simp [Value.oneCell']) (by unfold maxLen; omega) (by omega) (by simp; omega) ?_
                     intro v6 w6 hown6_ hgr_ _
                     obtain ⟨g6, c6, rfl⟩ := ownsRow_succ hown6_
                     have hv6_ : Boxed w6 (w1.heap.size + 1) 88 (.slice ua A.length uc) := (HV5.out.alloc _).kept hgr_ (fun e' => own_lowC HOW5.out (by omega) e'.symm)
                     have cv6 := hv6_.cell
                     have cf6 := hv6_.frozen
                     have hown6 := Lib.hid hown6_
                     have hgr := Lib.hid hgr_
                     have hv6 := Lib.hid hv6_
                     clear hown6_ hgr_ hv6_)
        repeat (rw [Oper.semAt_eq _ _ _ (fun c h => by cases h)]; go_simp; try gi_wp2)
        have hlo : ∀ j, j < Wx.heap.size → j ≠ w1.heap.size + 1 → (Value.slice ua A.length uc).ownBlock ≠ some j → (w6.setCell ⟨w1.heap.size + 1, 0, none⟩ (.slice (some ⟨g6, 0, none⟩) (A.length + 1) c6)).heap[j]? = Wx.heap[j]? := fun j hj hne hno =>
          (Below.heap_setCell _ _ _ _ hne).trans ((hgr.out.block j (by simp; omega) (fun e' => hno e'.symm)).trans ((Below.heap_alloc _ _ _ (Nat.lt_of_lt_of_le hj hs5)).trans (HKK.out.block j hj)))
        have hsz6 : Wx.heap.size ≤ w6.heap.size := Nat.le_trans hs5 (Nat.le_trans (by simp) hgr.out.size)
        refine ⟨⟨by simpa [World.setCell] using hsz6, fun j o hjB hj ho => ?_⟩, ⟨by simpa [World.setCell] using hsz6, fun j hj => ?_⟩, ⟨_, hv6.out.set _, ?_, trivial⟩, ?_⟩
        · exact (hlo j (blk_lt hj) (fun e' => by have h2 := HV.out; rw [e'] at hj; unfold Boxed at h2; rw [h2] at hj; cases hj; cases ho) (own_neC HOW.out hj ho)).trans hj
        · exact hlo j (by rw [hj]; omega) (by rw [hj]; omega) (own_lowC HOW.out (by rw [hj]; omega))
        · rw [HSN.out, List.length_append, flatCl_end]
          exact hown6.out.kept (grownBy_setCell' w6 (w1.heap.size + 1) _) (.inr (fun e' => own_lowC hown6.out (j := w1.heap.size + 1) (by omega) e'))
        · refine ⟨?_, ?_, ?_, by simpa [World.setCell] using Nat.le_trans hszW hsz6, fun j hj hne => ?_⟩
          · exact hgr.out.os.trans (HKK.out.os.trans HGR.out.os)
          · exact hgr.out.tape.trans (HKK.out.tape.trans HGR.out.tape)
          · exact hgr.out.output.trans (HKK.out.output.trans HGR.out.output)
          · exact (hlo j (by omega) (fun e' => hne (by rw [e'])) (own_lowC HOW.out hj)).trans (HGR.out.block j hj hne)
    case done =>
      rintro D zs Wx hDD rfl ⟨⟨v, hv, hown, _⟩, hg⟩ hK
      rw [HL.out] at hown
      obtain ⟨ua, uc, rfl⟩ := owns_slice hown
      have cv := hv.cell
      have HKW := Lib.hid (((HT0.out.grown hg HT0.out.size (fun j e => by cases e; omega))).grown (grownBy_putObj' Wx D (.deferred none)) (HT0.out.grown hg HT0.out.size (fun j e => by cases e; omega)).size (fun j e' => by cases e'; have := HT0.out.size; omega))
      have HR := Lib.hid (hown.kept (grownBy_putObj' Wx D (.deferred none)) (.inr (fun e' => own_neC hown hK rfl e')))
      have hsz0 := HT0.out.size
      have HK := Lib.hid hK
      clear hv hown hg hK
      go_wp2
      refine ⟨by simp, .inl ⟨_, _, rfl, run_takeDeferred HK.out, ?_⟩⟩
      exact ⟨.tuple #[.slice ua L.length uc, .int .i64 0], by simp [results, Try.results54, go_sem], ⟨_, rfl, (SlWCl.of_owns HR.out).mono hsz0 (Nat.le_refl _), HKW.out⟩⟩
    case stop =>
      rintro D c pre W _ _ h _
      exact h.elim
end Go.Proofs.Ytekmdcakegfkmaa
