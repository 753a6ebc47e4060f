/- ReadSpans: the parsing. -/
import Derived.Test.YthngnbaoaeomeaaDoorSzP
import Derived.Test.YthngnbaoaeomeaaDoorLn3
namespace Go.Proofs.YthngnbaoaeomeaaDoor
open Go.Shelf Go.ChangeShapes Go.WideShapes Go.ChangeAt Go.RowKit Go.Joins Go.Deep
set_option linter.unusedVariables false
set_option linter.unusedSimpArgs false
attribute [local go_sem] Oper.semAt_some

/-- what the parsing leaves -/
def SzPP (l : List UInt8) (w : World) (e : Ending) (w' : World) : Prop :=
  ∃ A v ok, e = .returned (.tuple #[v, .bool ok]) ∧ SqsWf A ∧ A.length ≤ 60 ∧ SlWSq w.heap.size w'.heap.size w' A v ∧ (ok = true → l = [] → A = []) ∧ (∀ r, szOk r = true → spL r = l → ok = true ∧ A = r) ∧ Below w.heap.size w w'
/-- between two rounds: the list's box, the results' boxes -/
def SzI (B lo : Nat) (w : World) (l : List UInt8) (k : Nat) (W : World) : Prop :=
  ∃ A v, A.length = k ∧ k ≤ 60 ∧ SqsWf A ∧ SzOf l A ∧ Boxed W B 42 (.slice none 0 0) ∧ Boxed W (B + 1) 4 (.bool false) ∧ Boxed W (B + 1 + 1) 42 v ∧ W.ownsRow lo 89 2 v A.length (flatSq A) ∧ Below B w W
def SzX (B : Nat) (w : World) (l : List UInt8) (W : World) : Prop :=
  Boxed W B 42 (.slice none 0 0) ∧ Boxed W (B + 1) 4 (.bool false) ∧ (∀ r, szOk r = true → spL r ≠ l) ∧ Below B w W
theorem box_own {lo : Nat} {W W' : World} {row : Option Nat} {B : Nat} {t : TypeId} {v : Value} (h : Boxed W B t v) (hg : W.grownBy W' row) (hr : ∀ r, row = some r → lo ≤ r ∧ ∃ o : Obj, W.heap[r]? = some o ∧ o.isCells = false) : Boxed W' B t v :=
  h.kept hg (fun e => by
    obtain ⟨_, o, ho, hc⟩ := hr B e.symm
    unfold Boxed at h
    rw [h] at ho; cases ho; cases hc)
theorem own_lowK {w : World} {base size k : Nat} {e : TypeId} {v : Value} {xs : List Value} (h : w.ownsRow base e size v k xs) {j : Nat} (hj : j < base) : v.ownBlock ≠ some j := by
  rcases h.2 with ⟨rfl, _⟩ | ⟨g, cap, cur, rfl, hb, hgb, _⟩
  · simp [Value.ownBlock]
  · intro e'
    obtain rfl : g = j := by simpa [Value.ownBlock] using e'
    omega
theorem own_neK {w : World} {base size k : Nat} {e : TypeId} {v : Value} {xs : List Value} (h : w.ownsRow base e size v k xs) {j : Nat} {o : Obj} (hj : w.heap[j]? = some o) (ho : o.isCells = false) : v.ownBlock ≠ some j := by
  rcases h.2 with ⟨rfl, _⟩ | ⟨g, cap, cur, rfl, hb, hgb, _⟩
  · simp [Value.ownBlock]
  · intro e'
    obtain rfl : g = j := by simpa [Value.ownBlock] using e'
    rw [hgb] at hj; cases hj; cases ho
theorem box_putK {W : World} {D B : Nat} {t : TypeId} {v : Value} (h : Boxed W B t v) (hD : W.heap[D]? = some (.deferred (some []))) : Boxed (W.putObj D (.deferred none)) B t v :=
  h.kept (grownBy_putObj' W D (.deferred none)) (fun e => by
    obtain rfl : B = D := by simpa using e
    unfold Boxed at h; rw [h] at hD; cases hD)
theorem below_putK {W w : World} {D B : Nat} (h : Below B w W) (hD : W.heap[D]? = some (.deferred (some []))) (hB : B ≤ D) (hs : B ≤ W.heap.size := by omega) : Below B w (W.putObj D (.deferred none)) :=
  h.grown (grownBy_putObj' W D (.deferred none)) hs (fun k e => by cases e; exact hB)
theorem below_ownK {lo B : Nat} {w W W' : World} {row : Option Nat} (h : Below B w W) (hB : B ≤ lo) (hs : B ≤ W.heap.size) (hg : W.grownBy W' row) (hr : ∀ r, row = some r → lo ≤ r) : Below B w W' :=
  h.grown hg hs (fun k e => by have := hr k e; omega)
theorem SzI.own {B lo : Nat} {w : World} {l : List UInt8} (hB : B ≤ lo) (hw : w.heap.size = B) : OwnFrom lo (SzI B lo w l) := by
  rintro k X Y row ⟨A, v, h1, h2, h3, h4, b1, b2, b3, ho, hb⟩ hg hr
  refine ⟨A, v, h1, h2, h3, h4, box_own b1 hg hr, box_own b2 hg hr, box_own b3 hg hr, ?_, below_ownK hb hB (by have := hb.size; omega) hg (fun r e => (hr r e).1)⟩
  refine ho.kept hg ?_
  by_cases hv : v.ownBlock = none
  · exact .inl hv
  · refine .inr (fun e => ?_)
    cases row with
    | none => exact hv e
    | some j =>
      obtain ⟨_, o, hj, hc⟩ := hr j rfl
      exact own_neK ho hj hc e
theorem SzI.turn {B lo : Nat} {w : World} {l : List UInt8} (hB : B + 1 + 1 + 1 < lo) (hw : w.heap.size = B) {k : Nat} {X Y : World} (h : SzI B lo w l k X) (hg : X.grownBy Y (some (B + 1 + 1 + 1))) : SzI B lo w l k Y := by
  obtain ⟨A, v, h1, h2, h3, h4, b1, b2, b3, ho, hb⟩ := h
  refine ⟨A, v, h1, h2, h3, h4, b1.kept hg (by simp; omega), b2.kept hg (by simp), b3.kept hg (by simp), ho.kept hg (.inr (fun e => own_lowK ho (by omega) e)), hb.grown hg (by have := hb.size; omega) (fun k e => by cases e; omega)⟩
theorem SzX.own {B lo : Nat} {w : World} {l : List UInt8} (hB : B ≤ lo) (hw : w.heap.size = B) : OwnFrom lo (fun (_ : Unit) W => SzX B w l W) := by
  rintro _ X Y row ⟨b1, b2, h1, hb⟩ hg hr
  exact ⟨box_own b1 hg hr, box_own b2 hg hr, h1, below_ownK hb hB (by have := hb.size; omega) hg (fun r e => (hr r e).1)⟩
set_option maxRecDepth 100000 in
set_option maxHeartbeats 16000000 in
theorem parseSpans_any (l : List UInt8) (w : World) (hl : l.length ≤ 1048576) (hE : ErrAt w) : Calls Tryd.prog 53 #[.string (bsT l)] w (SzPP l w) := by
  obtain ⟨i0, hi0, hz0, hzz1, hzz2⟩ := info_parts info_SqR
  have Hi := Lib.hid hi0
  have Hz0 := Lib.hid hz0
  have Hz1 := Lib.hid hzz1
  have Hz2 := Lib.hid hzz2
  have HER := Lib.hid (fun W2 (h2 : Below w.heap.size w W2) => hE.below h2)
  obtain ⟨B, hB⟩ : ∃ B, w.heap.size = B := ⟨_, rfl⟩
  clear hi0 hz0 hzz1 hzz2 hE
  by_cases hl0 : l = []
  · have zz : (bsT l).toList.isEmpty = true := by rw [toL_bsT, hl0]; rfl
    have zz2 : (bsT l).toList = [] := by rw [toL_bsT, hl0]
    have HL0 := Lib.hid hl0
    clear hl0
    subst hB
    refine (callsIn_wide (n := 8)).1 ?_
    refine callsIn_of_wp_marks Tryd.func53 rfl trivial ?_ rfl
    simp only [Tryd.ntmps53, List.size_toArray, List.length_cons, List.length_nil, Nat.reduceAdd, Nat.reduceSub, Array.replicate_succ, Array.replicate_zero, List.push_toArray, List.append_toArray, List.nil_append, List.cons_append]
    refine wpIn_wide.2 ?_
    go_wp2
    refine ⟨.tuple #[.slice none 0 0, .bool true], by simp [results, Tryd.results53, go_sem], [], _, true, rfl, fun p hp => by simp at hp, by simp, .empty _ _ rfl, fun _ _ => rfl, fun r h1 h2 => ⟨rfl, (sz_empty (h2.trans HL0.out)).symm⟩, ?_⟩
    exact by repeat (first | with_reducible exact Below.refl _ _ | (with_reducible refine kSet ?_ ?hB _; case hB => (simp; try omega)) | with_reducible refine kAlloc ?_ _ | with_reducible refine Below.drew ?_ | with_reducible refine kDrewN ?_ _ | with_reducible refine kTrans ?_ (by assumption))
  have zz : (bsT l).toList.isEmpty = false := by rw [toL_bsT]; exact List.isEmpty_eq_false_iff.2 hl0
  have zz2 : ¬ (bsT l).toList = [] := by rw [toL_bsT]; exact hl0
  have e32 := Lib.hid hl0
  refine (callsIn_wide (n := 8)).1 ?_
  refine callsIn_of_wp_marks Tryd.func53 rfl trivial ?_ rfl
  simp only [Tryd.ntmps53, List.size_toArray, List.length_cons, List.length_nil, Nat.reduceAdd, Nat.reduceSub, Array.replicate_succ, Array.replicate_zero, List.push_toArray, List.append_toArray, List.nil_append, List.cons_append]
  refine wpIn_wide.2 ?_
  go_wp2_with fail
  refine (splitSeq_any l 32 _).mono ?_
  rintro e w7 ⟨rfl, rfl⟩
  go_wp2
  refine (wpIn_wide (n := 8)).1 ?_
  obtain ⟨W0, hW0⟩ : ∃ W0, ((((((w.alloc (.cells #[.slice none 0 0] 42)).alloc (.cells #[.bool false] 4)).alloc (.cells #[.slice none 0 0] 42)).alloc (.cells #[.string (bsT l)] 9)).alloc (.cells #[.string ⟨#[32]⟩] 9)).alloc (.cells #[.int .i64 0] 3)) = W0 := ⟨_, rfl⟩
  have hsz : W0.heap.size = B + 1 + 1 + 1 + 1 + 1 + 1 := by rw [← hW0, ← hB]; simp
  have kB : Below B w W0 := by rw [← hW0, ← hB]; exact kAlloc (kAlloc (kAlloc (kAlloc (kAlloc (kAlloc (Below.refl _ _) _) _) _) _) _) _
  have x1 : Boxed W0 B 42 (.slice none 0 0) := by rw [← hW0, ← hB]; exact (((((Boxed.new w _ _).alloc _).alloc _).alloc _).alloc _).alloc _
  have x2 : Boxed W0 (B + 1) 4 (.bool false) := by
    have h := Boxed.new (w.alloc (.cells #[.slice none 0 0] 42)) 4 (.bool false)
    rw [World.size_alloc, hB] at h
    rw [← hW0]; exact (((h.alloc _).alloc _).alloc _).alloc _
  have x3 : Boxed W0 (B + 1 + 1) 42 (.slice none 0 0) := by
    have h := Boxed.new ((w.alloc (.cells #[.slice none 0 0] 42)).alloc (.cells #[.bool false] 4)) 42 (.slice none 0 0)
    rw [World.size_alloc, World.size_alloc, hB] at h
    rw [← hW0]; exact ((h.alloc _).alloc _).alloc _
  have x4 : W0.heap[B + 1 + 1 + 1]? = some (.cells #[.string (bsT l)] 9 (0, 0)) := by
    have h := Boxed.new (((w.alloc (.cells #[.slice none 0 0] 42)).alloc (.cells #[.bool false] 4)).alloc (.cells #[.slice none 0 0] 42)) 9 (.string (bsT l))
    rw [World.size_alloc, World.size_alloc, World.size_alloc, hB] at h
    rw [← hW0]; exact (h.alloc _).alloc _
  have x5 : W0.heap[B + 1 + 1 + 1 + 1]? = some (.cells #[.string ⟨#[32]⟩] 9 (0, 0)) := by
    have h := Boxed.new ((((w.alloc (.cells #[.slice none 0 0] 42)).alloc (.cells #[.bool false] 4)).alloc (.cells #[.slice none 0 0] 42)).alloc (.cells #[.string (bsT l)] 9)) 9 (.string ⟨#[32]⟩)
    rw [World.size_alloc, World.size_alloc, World.size_alloc, World.size_alloc, hB] at h
    rw [← hW0]; exact h.alloc _
  have x6 : W0.heap[B + 1 + 1 + 1 + 1 + 1]? = some (.cells #[.int .i64 0] 3 (0, 0)) := by
    have h := Boxed.new (((((w.alloc (.cells #[.slice none 0 0] 42)).alloc (.cells #[.bool false] 4)).alloc (.cells #[.slice none 0 0] 42)).alloc (.cells #[.string (bsT l)] 9)).alloc (.cells #[.string ⟨#[32]⟩] 9)) 3 (.int .i64 0)
    rw [World.size_alloc, World.size_alloc, World.size_alloc, World.size_alloc, World.size_alloc, hB] at h
    rw [← hW0]; exact h
  rw [hW0]
  clear hW0
  refine wpIn_rangeBoxS rfl (by omega) (gf := 110) (lb := #[.pointer (some ⟨B + 1 + 1 + 1 + 1, 0, none⟩), .pointer (some ⟨B + 1 + 1 + 1, 0, none⟩), .pointer (some ⟨B + 1 + 1 + 1 + 1 + 1, 0, none⟩)]) rfl trivial enters_splitSeq (encs := fun x : List UInt8 => #[.string (bsT x)]) (S := fun j => B + 1 + 1 + 1 ≤ j ∧ j ≤ B + 1 + 1 + 1 + 1 + 1) (X := wdX 32 l) (N := (spl 32 l).length)
    (splitSeq1_box 7 (by omega) (B + 1 + 1 + 1) l 32 (by omega) W0 x4 x5 x6) (fun j hj => by omega) (by omega) (fun _ => rfl) (SzI B W0.heap.size w l) (SzX B w l) (SzI.own (by omega) hB) (SzX.own (by omega) hB) (fun k X Y h hg => SzI.turn (by omega) hB h hg)
    ⟨[], _, rfl, by omega, fun p hp => by simp at hp, fun r _ _ => by simp, x1, x2, x3, ⟨by simp [flatSq], .inl ⟨rfl, rfl⟩⟩, kB⟩
    (fun x => { tmps := #[.string (bsT l), undef, .pointer (some ⟨B, 0, none⟩), .pointer (some ⟨B + 1, 0, none⟩), .pointer (some ⟨B + 1 + 1, 0, none⟩), .string (bsT x), undef, undef, .string (bsT l), .bool false, .string (bsT l), .func (.func 110) #[] #[.pointer (some ⟨B + 1 + 1 + 1 + 1, 0, none⟩), .pointer (some ⟨B + 1 + 1 + 1, 0, none⟩), .pointer (some ⟨B + 1 + 1 + 1 + 1 + 1, 0, none⟩)], .string (bsT x), undef, undef, undef, undef, undef, undef, undef, undef, undef, undef, undef, undef, undef, undef, undef, undef, undef], defers := [] })
    ?assign ?body ?done ?stop
  case assign =>
    intro lp x W K hK
    gi_wp2
    exact hK
  case body =>
    rintro lp k Wx hlp ⟨A, v, rfl, hk20, hwf, hof, b1, b2, b3, hown, hBl⟩ hkN hWs
    obtain ⟨ua, uc, rfl⟩ := owns_slice hown
    have hBl' : Below w.heap.size w Wx := by rw [hB]; exact hBl
    obtain ⟨T, hT⟩ : ∃ T, wdX 32 l A.length = T := ⟨_, rfl⟩
    have hxl := wdX_short 32 l A.length
    have hTl : T.length ≤ 1048576 := by rw [hT] at hxl; omega
    have HX := Lib.hid (show (spl 32 l)[A.length]? = some T by rw [← hT]; exact wdX_get hkN)
    have HPK := Lib.hid (parseSpan_any T Wx hTl (HER.out Wx hBl'))
    rw [hT]
    have HOF := Lib.hid hof
    have HWF := Lib.hid hwf
    have HB1 := Lib.hid b1
    have HB2 := Lib.hid b2
    have HB3 := Lib.hid b3
    have HOW := Lib.hid hown
    have HBL := Lib.hid hBl
    clear hT hof hwf b1 b2 b3 hown hBl hBl'
    gi_wp2_with fail
    repeat (rw [Oper.semAt_eq _ _ _ (fun c h => by cases h)]; go_simp; try gi_wp2_with fail)
    refine ⟨trivial, (CallsIn.inRound _ (callsIn_wide.2 HPK.out)).mono ?_⟩
    rintro e w4 ⟨p, ok, rfl, hpw, hpq, hb4⟩
    have HPW := Lib.hid hpw
    have HPQ := Lib.hid hpq
    have HK4 := Lib.hid hb4
    have c1 : Boxed w4 B 42 (.slice none 0 0) := blk_below HB1.out hb4
    have c2 : Boxed w4 (B + 1) 4 (.bool false) := blk_below HB2.out hb4
    have c3 : Boxed w4 (B + 1 + 1) 42 (.slice ua A.length uc) := blk_below HB3.out hb4
    have y1 := c1.frozen
    have y2 := c2.frozen
    have z1 := c1.cell
    have z2 := c2.cell
    have z3 := c3.cell
    have y3 := c3.frozen
    have s4 := hb4.size
    have lb1 := c1.lt
    have lb2 := c2.lt
    have lb3 := c3.lt
    have C1 := Lib.hid c1
    have C2 := Lib.hid c2
    have C3 := Lib.hid c3
    have hsB : B ≤ Wx.heap.size := by omega
    have KF4 := Lib.hid (show KeepsFrom W0.heap.size Wx w4 from ⟨hb4.size, fun k o _ h _ => (hb4.block k (blk_lt h)).trans h⟩)
    have T4 := Lib.hid (show Below B w w4 from HBL.out.trans (hb4.mono hsB))
    clear HPK hpw hpq hb4 c1 c2 c3
    cases ok with
    | false =>
      have HNO := Lib.hid (show ∀ r, szOk r = true → spL r ≠ l from sz_no e32.out HX.out (fun q h1 h2 => by have h3 := (HPQ.out q h1 h2).1; cases h3))
      gi_wp2
      refine ⟨((KF4.out.trans (KeepsFrom.of_grownBy (grownBy_setCell' _ _ _) (fun j e => by cases e; omega))).trans (KeepsFrom.of_grownBy (grownBy_setCell' _ _ _) (fun j e => by cases e; omega))).trans ((KeepsOthers.alloc _ _).from _), ((C1.out.set _).other (by omega) _).alloc _, ((C2.out.other (by omega) _).set _).alloc _, HNO.out, (((T4.out.setCell (p := ⟨B, 0, none⟩) (Nat.le_refl _) _).setCell (p := ⟨B + 1, 0, none⟩) (Nat.le_succ _) _).alloc (by simp; omega) _)⟩
    | true =>
      by_cases h60 : A.length < 60
      · have e60 : ¬ (60 : Int) ≤ (A.length : Int) := by omega
        have e61 : decide ((60 : Int) ≤ (A.length : Int)) = false := by simpa using e60
        have HON := Lib.hid (sz_step e32.out HOF.out HX.out (fun q h1 h2 => (HPQ.out q h1 h2).2))
        have HWN := Lib.hid (show SqsWf (A ++ [p]) from fun x hx => by
          rcases List.mem_append.1 hx with hx | hx
          · exact HWF.out x hx
          · obtain rfl := List.mem_singleton.1 hx
            exact HPW.out)
        obtain ⟨w5, hw5⟩ : ∃ z, w4.alloc (.cells #[.int .i8 p.low, .int .i8 p.high] 89) = z := ⟨_, rfl⟩
        have k5 : Below w4.heap.size w4 w5 := by rw [← hw5]; exact kAlloc (Below.refl _ _) _
        have b5 : w5.heap[w4.heap.size]? = some (.cells #[.int .i8 p.low, .int .i8 p.high] 89 (0, 0)) := by rw [← hw5]; exact heap_alloc_new _ _
        obtain ⟨X5, hX5⟩ : ∃ X5, w4.heap.size = X5 := ⟨_, rfl⟩
        rw [hX5] at b5
        have hs5 := k5.size
        have D1 := Lib.hid (show Boxed w5 B 42 (.slice none 0 0) from blk_below C1.out k5)
        have D2 := Lib.hid (show Boxed w5 (B + 1) 4 (.bool false) from blk_below C2.out k5)
        have D3 := Lib.hid (show Boxed w5 (B + 1 + 1) 42 (.slice ua A.length uc) from blk_below C3.out k5)
        have HOW5 := Lib.hid (owns_below HOW.out (kTrans HK4.out k5))
        have HK5 := Lib.hid (kTrans HK4.out k5)
        have T5 := Lib.hid (show Below B w w5 from T4.out.trans (k5.mono (by omega)))
        have hBlk := Lib.hid (owns_block HOW5.out)
        have x0_ : w5.cell? ⟨X5, 0, none⟩ = some (.int .i8 p.low) := cell_of_row _ _ 0 _ _ _ b5
        have x1_ : w5.cell? ⟨X5, 1, none⟩ = some (.int .i8 p.high) := cell_of_row _ _ 1 _ _ _ b5
        have lx5 := blk_lt b5
        have d3 := D3.out.cell
        have df3 := D3.out.frozen
        have ld1 := D1.out.lt
        have ld2 := D2.out.lt
        have ld3 := D3.out.lt
        clear z1 z2 z3 y1 y2 y3 lb1 lb2 lb3 C1 C2 C3 T4 KF4 k5 b5 HOF HWF HPW HPQ
        gi_wp2_with (gi_at_builtin
                     refine wpListIn_append_own _ rfl _ _ 42 rfl W0.heap.size 89 i0 _ 2 2 Tryd.underlying42 Hi.out Hz0.out Hz1.out Hz2.out rfl (by decide) (.slice ua A.length uc) A.length (flatSq A) rfl (owns_below HOW5.out (kAlloc (Below.refl _ _) _)) ⟨w5.heap.size, 0, none⟩ 1 1 [.int .i8 p.low, .int .i8 p.high] rfl rfl (World.news_of_block (cs := #[.int .i8 p.low, .int .i8 p.high]) (heap_alloc_new _ _)) (by simp [Value.oneCell']) (by unfold maxLen; omega) (by omega) (by simp; omega) ?_
                     intro v6 w6 hown6_ hgr_ _
                     obtain ⟨g6, c6, rfl⟩ := ownsRow_succ hown6_
                     have hv6_ : Boxed w6 (B + 1 + 1) 42 (.slice ua A.length uc) := (D3.out.alloc _).kept hgr_ (fun e' => own_lowK HOW5.out (by omega) e'.symm)
                     have cv6 := hv6_.cell
                     have cf6 := hv6_.frozen
                     have hown6 := Lib.hid hown6_
                     have hgr := Lib.hid hgr_
                     have hv6 := Lib.hid hv6_
                     have l6 := hv6_.lt
                     clear hown6_ hgr_ hv6_)
        have hlo : ∀ j, j < Wx.heap.size → j ≠ B + 1 + 1 → (Value.slice ua A.length uc).ownBlock ≠ some j → (w6.setCell ⟨B + 1 + 1, 0, none⟩ (.slice (some ⟨g6, 0, none⟩) (A.length + 1) c6)).heap[j]? = Wx.heap[j]? := fun j hj hne hno =>
          (Below.heap_setCell _ _ _ _ hne).trans ((hgr.out.block j (by have := HK5.out.size; simp; omega) (fun e' => hno e'.symm)).trans ((Below.heap_alloc _ _ _ (Nat.lt_of_lt_of_le hj HK5.out.size)).trans (HK5.out.block j hj)))
        have hsz6 : Wx.heap.size ≤ w6.heap.size := Nat.le_trans HK5.out.size (Nat.le_trans (by simp) hgr.out.size)
        refine ⟨⟨by simpa [World.setCell] using hsz6, fun j o hjB hj ho => ?_⟩, ?_, A ++ [p], _, ?_, by omega, HWN.out, HON.out, ?_, ?_, hv6.out.set _, ?_, ?_⟩
        · exact (hlo j (blk_lt hj) (by omega) (own_neK HOW.out hj ho)).trans hj
        · intro j hj
          exact hlo _ (by omega) (by omega) (own_lowK HOW.out (by omega))
        · rw [List.length_append]; rfl
        · exact ((D1.out.alloc _).kept hgr.out (fun e' => own_lowK HOW5.out (by omega) e'.symm)).other (by omega) _
        · exact ((D2.out.alloc _).kept hgr.out (fun e' => own_lowK HOW5.out (by omega) e'.symm)).other (by omega) _
        · rw [List.length_append, flatSq_end]
          exact hown6.out.kept (grownBy_setCell' w6 (B + 1 + 1) _) (.inr (fun e' => own_lowK hown6.out (j := B + 1 + 1) (by omega) e'))
        · have ta := T5.out.alloc (by omega) (.cells #[.int .i8 p.low, .int .i8 p.high] 89)
          exact (ta.grown hgr.out (by simp; omega) (fun q e => by have := (hBlk.out q e).1; omega)).setCell (p := ⟨B + 1 + 1, 0, none⟩) (by show B ≤ B + 1 + 1; omega) _
      · have HNO := Lib.hid (show ∀ r, szOk r = true → spL r ≠ l from sz_full e32.out hkN (by omega))
        have e60 : (60 : Int) ≤ (A.length : Int) := by omega
        have e61 : decide ((60 : Int) ≤ (A.length : Int)) = true := by simpa using e60
        gi_wp2
        refine ⟨((KF4.out.trans (KeepsFrom.of_grownBy (grownBy_setCell' _ _ _) (fun j e => by cases e; omega))).trans (KeepsFrom.of_grownBy (grownBy_setCell' _ _ _) (fun j e => by cases e; omega))).trans ((KeepsOthers.alloc _ _).from _), ((C1.out.set _).other (by omega) _).alloc _, ((C2.out.other (by omega) _).set _).alloc _, HNO.out, (((T4.out.setCell (p := ⟨B, 0, none⟩) (Nat.le_refl _) _).setCell (p := ⟨B + 1, 0, none⟩) (Nat.le_succ _) _).alloc (by simp; omega) _)⟩
  case done =>
    rintro D W hD ⟨A, v, hAk, hk20, hwf, hof, b1, b2, b3, hown, hBl⟩ hK
    obtain ⟨ua, uc, rfl⟩ := owns_slice hown
    have c3 := b3.cell
    have y1 := b1.frozen
    have y2 := b2.frozen
    have z1 := b1.cell
    have z2 := b2.cell
    have lb1 := b1.lt
    have lb2 := b2.lt
    have lb3 := b3.lt
    have B1 := Lib.hid b1
    have B2 := Lib.hid b2
    have HOW := Lib.hid hown
    have HBL := Lib.hid hBl
    have HK := Lib.hid hK
    have HE := Lib.hid (sz_end e32.out hof hAk)
    have HWF := Lib.hid hwf
    have HAK := Lib.hid hAk
    have hDB : B + 1 + 1 + 1 < D := by omega
    have hl0' := e32.out
    have hWD := blk_lt hK
    clear b1 b2 b3 hown hBl hK hof hwf hAk
    go_wp2
    have e1 : (W.setCell ⟨B, 0, none⟩ (.slice ua A.length uc)).heap[D]? = some (.deferred (some [])) := (Below.heap_setCell _ _ _ _ (by show D ≠ B; omega)).trans HK.out
    have e2 : ((W.setCell ⟨B, 0, none⟩ (.slice ua A.length uc)).setCell ⟨B + 1, 0, none⟩ (.bool true)).heap[D]? = some (.deferred (some [])) := (Below.heap_setCell _ _ _ _ (by show D ≠ B + 1; omega)).trans e1
    have r1 := (box_putK ((B1.out.set (.slice ua A.length uc)).other (show B ≠ B + 1 by omega) (.bool true)) e2).cell
    have r2 := (box_putK ((B2.out.other (show B + 1 ≠ B by omega) (.slice ua A.length uc)).set (.bool true)) e2).cell
    have o1 := HOW.out.kept (grownBy_setCell' W B (.slice ua A.length uc)) (.inr (fun e => own_lowK HOW.out (by omega) e))
    have o2 := o1.kept (grownBy_setCell' _ (B + 1) (.bool true)) (.inr (fun e => own_lowK HOW.out (by omega) e))
    have o3 := o2.kept (grownBy_putObj' _ D (.deferred none)) (.inr (fun e => own_neK o2 e2 rfl e))
    have bl := below_putK ((HBL.out.setCell (p := ⟨B, 0, none⟩) (Nat.le_refl _) (.slice ua A.length uc)).setCell (p := ⟨B + 1, 0, none⟩) (Nat.le_succ _) (.bool true)) e2 (by omega) (by simp [World.setCell]; omega)
    refine ⟨by simp, .inl ⟨_, _, rfl, run_takeDeferred e2, ?_⟩⟩
    exact ⟨.tuple #[.slice ua A.length uc, .bool true], by simp [results, Tryd.results53, go_sem, r1, r2], A, _, true, rfl, HWF.out, by have := HAK.out; omega, (SlWSq.of_owns (l := A) o3).mono (by omega) (Nat.le_refl _), fun _ h => absurd h hl0', fun r h1 h2 => ⟨rfl, HE.out r h1 h2⟩, by rw [hB]; exact bl⟩
  case stop =>
    rintro D W hD ⟨b1, b2, hno, hBl⟩ hK
    have z1 := b1.cell
    have z2 := b2.cell
    have lb2 := b2.lt
    have HK := Lib.hid hK
    have T := Lib.hid (below_putK hBl hK (show B ≤ D by omega))
    have HNO := Lib.hid hno
    have HC1 := Lib.hid (box_putK b1 hK)
    have HC2 := Lib.hid (box_putK b2 hK)
    clear b1 b2 hno hBl hK
    gi_wp2
    refine ⟨by simp, .inl ⟨_, _, rfl, run_takeDeferred HK.out, ?_⟩⟩
    have r1 := HC1.out.cell
    have r2 := HC2.out.cell
    exact ⟨.tuple #[.slice none 0 0, .bool false], by simp [results, Tryd.results53, go_sem, r1, r2], [], _, false, rfl, fun p hp => by simp at hp, by simp, .empty _ _ rfl, (fun h => by cases h), fun r h1 h2 => absurd h2 (HNO.out r h1), by rw [hB]; exact T.out⟩
end Go.Proofs.YthngnbaoaeomeaaDoor
