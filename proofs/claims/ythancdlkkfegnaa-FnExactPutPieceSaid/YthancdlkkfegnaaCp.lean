/- Copies of boards: the program's slices.Clone and the model's copy. -/
import Derived.Test.YthancdlkkfegnaaMk
import Derived.Deep.AppendLies
import Derived.Deep.RegionLaw
import Derived.Deep.RegionHeldLaw
import Derived.Lib.SliceRun
namespace Go.Proofs.Ythancdlkkfegnaa
open Go.ChangeShapes Go.WideShapes Go.ChangeAt Go.RowKit
set_option linter.unusedVariables false

/-- append onto an own row, as one step of a region that draws -/
theorem step_append_own {P : Program} {ops : Array Oper} {o : Oper} {a : Act} {w : World} {K : Act → World → Prop} {Q : Exit → Act → World → Prop} {E : Prop} (hgd : o.guard = none) (s x : Operand) (t : TypeId)
    (ho : o.op = .call { callee := .builtin .append, args := #[s, x], argTypes := #[t, t] })
    (base : Nat) (e : TypeId) (i : TypeInfo) (z : Value) (size bytes : Nat) (ht : P.underlying t = some (.slice e)) (hi : P.info? e = some i) (hz : i.zero = some z)
    (hsize : i.size = size) (hby : i.bytes = bytes) (hzs : z.cells.size = size) (hsz : 0 < size)
    (v : Value) (n : Nat) (xs : List Value) (hs : a.eval s = v) (hown : w.ownsRow base e size v n xs)
    (ad : Addr) (m c : Nat) (news : List Value) (hx : a.eval x = .slice (some ad) m c) (hl : news.length = m * size) (hnews : ∀ j u, news[j]? = some u → w.cell? (ad.add j) = some u) (h1 : ∀ u ∈ news, u.oneCell' = true)
    (h63 : n + m ≤ maxLen) (hbytes : (n + m) * bytes ≤ 140737488355328) (hbase : base ≤ w.heap.size)
    (h : ∀ v' w', w'.ownsRow base e size v' (n + m) (xs ++ news) → w.grownBy w' v.ownBlock → (v' = .slice none 0 0 ↔ v = .slice none 0 0 ∧ m = 0) → K (a.put o.dst v') w') :
    if Region.wanted o (yielded ops a.tmps) = true then Oper.wp P o a w K Q else E := by
  have hw : Region.wanted o (yielded ops a.tmps) = true := by simp [Region.wanted, hgd]
  rw [if_pos hw]
  exact wp_append_own w s x t ho base e i z size bytes ht hi hz hsize hby hzs hsz v n xs hs hown ad m c news hx hl hnews h1 h63 hbytes hbase h

theorem owns_new {w : World} {base g size : Nat} {e : TypeId} (hb : base ≤ g) (hg : w.heap[g]? = some (.cells #[] e (0, 0))) : w.ownsRow base e size (.slice (some ⟨g, 0, none⟩) 0 0) 0 [] :=
  ⟨by simp, .inr ⟨g, 0, #[], rfl, hb, hg, Nat.le_refl _, Nat.zero_le _, by simp, by simp⟩⟩
theorem owns_slice {w : World} {base n size : Nat} {e : TypeId} {v : Value} {xs : List Value} (h : w.ownsRow base e size v n xs) : ∃ a c, v = .slice a n c := by
  rcases h.2 with ⟨h1, h2⟩ | ⟨g, cap, cur, h1, _⟩
  · exact ⟨none, 0, by rw [h1, h2]⟩
  · exact ⟨_, cap, h1⟩
theorem owns_mono {w : World} {base base2 n size : Nat} {e : TypeId} {v : Value} {xs : List Value} (hb : base2 ≤ base) (h : w.ownsRow base e size v n xs) : w.ownsRow base2 e size v n xs := by
  refine ⟨h.1, ?_⟩
  rcases h.2 with h2 | ⟨g, cap, cur, h1, h2, r⟩
  · exact .inl h2
  · exact .inr ⟨g, cap, cur, h1, Nat.le_trans hb h2, r⟩
theorem heap_two (w : World) (x y : Obj) : ((w.alloc x).alloc y).heap[w.heap.size + 1]? = some y := by
  have := heap_alloc_new (w.alloc x) y
  simpa only [World.size_alloc] using this
theorem grown_below {a w w' : World} {v : Value} (h : Below a.heap.size a w) (hg : w.grownBy w' v.ownBlock) (hv : ∀ k, v.ownBlock = some k → a.heap.size ≤ k) : Below a.heap.size a w' := h.grown hg h.size (fun k hk => hv k hk)
theorem flatL_bytes {n : Nat} (h : n ≤ 1048576) : (0 + n) * 5 ≤ 140737488355328 := by omega

set_option maxRecDepth 100000 in
set_option maxHeartbeats 2000000 in
theorem clone_nn (b o n cap : Nat) (l : List Pc) (w : World) (hn : l.length = n) (hp : PcsAt w b o l) (hb : b < w.heap.size) (hmax : n ≤ 1048576) :
    Calls Try.prog 80 #[.slice (some ⟨b, o, none⟩) n cap] w fun e w' => ∃ v', e = .returned v' ∧ w'.ownsRow w.heap.size 46 5 v' n (flatL l) ∧ v' ≠ .slice none 0 0 ∧ Below w.heap.size w w' := by
  obtain ⟨i0, hi, hz0, hz1, hz2⟩ := info_parts info_pc
  have q28 : ∀ (w : World) (a : Option Addr) (n c n' c' : Nat), (binOp .eql 28 (.slice a n c) (.slice none n' c')).run Try.prog w = .ok (.bool a.isNone) w := fun w a n c n' c' => Lib.run_eql_slice_nil w _ _ a n c n' c' Try.underlying28
  have Hi := Lib.hid hi
  have Hz0 := Lib.hid hz0
  have Hz1 := Lib.hid hz1
  have Hz2 := Lib.hid hz2
  have hl : (flatL l).length = n * 5 := by rw [flatL_length, hn]
  have Hl := Lib.hid hl
  have HP := Lib.hid (fun w2 (h2 : Below w.heap.size w w2) => (hp.below h2 hb).news)
  clear hi hz0 hz1 hz2 hp hn hl
  go_enter Try.func80, Try.ntmps80
  go_wp2_with (at_builtin; refine wpList_append_own _ rfl _ _ 28 rfl w.heap.size 46 i0 _ 5 5 Try.underlying28 Hi.out Hz0.out Hz1.out Hz2.out rfl (by decide) _ 0 [] rfl (World.ownsRow_made w #[] 0 (Nat.le_refl _) (Nat.zero_le _) (by simp)) ⟨b, o, none⟩ n cap (flatL l) rfl Hl.out ?qc2 (flatL_one l) ?qc4 (flatL_bytes hmax) ?qc6 ?_)
  case qc2 => exact HP.out _ (by repeat (first | with_reducible exact Below.refl _ _ | (with_reducible refine kSet ?_ ?hB _; case hB => (simp; try omega)) | with_reducible refine kAlloc ?_ _ | with_reducible refine Below.drew ?_ | with_reducible refine kDrewN ?_ _ | with_reducible refine kTrans ?_ (by assumption)))
  case qc4 => unfold maxLen; omega
  case qc6 => simp
  intro v' w1 hown hgr hnil
  have hown2 := Lib.hid (show w1.ownsRow w.heap.size 46 5 v' n (flatL l) by simpa using hown)
  have hB : Below w.heap.size w w1 := grown_below (v := .slice (some ⟨w.heap.size, 0, none⟩) 0 0) (kAlloc (Below.refl _ _) _) hgr (by intro k hk; simp [Value.ownBlock] at hk; omega)
  have Hnn := Lib.hid (show v' ≠ .slice none 0 0 from hnil)
  clear hown hgr hnil
  go_wp2
  go_ret
  exact ⟨v', rfl, hown2.out, Hnn.out, hB⟩
theorem clone_mk (b o n cap : Nat) (l : List Pc) (w : World) (hn : l.length = n) (hp : PcsAt w b o l) (hb : b < w.heap.size) (hmax : n ≤ 1048576) :
    Calls Try.prog 80 #[.slice (some ⟨b, o, none⟩) n cap] w fun e w' => ∃ v', e = .returned v' ∧ w'.ownsRow w.heap.size 46 5 v' n (flatL l) ∧ Below w.heap.size w w' :=
  (clone_nn b o n cap l w hn hp hb hmax).mono fun e w' ⟨v, h1, h2, _, h3⟩ => ⟨v, h1, h2, h3⟩
set_option maxRecDepth 100000 in
set_option maxHeartbeats 4000000 in
theorem l01Copy_nn (bb b o n cap : Nat) (wd hi : Int) (l : List Pc) (w : World) (hn : l.length = n) (hbd : BdAt w bb 0 wd hi (.slice (some ⟨b, o, none⟩) n cap)) (hp : PcsAt w b o l) (hb : b < w.heap.size) (hmax : n ≤ 1048576) :
    Calls Try.prog 76 #[.pointer (some ⟨bb, 0, none⟩)] w fun e w' => ∃ v', e = .returned (.agg #[.int .i8 wd, .int .i8 hi, v']) ∧ w'.ownsRow w.heap.size 46 5 v' n (flatL l) ∧ v' ≠ .slice none 0 0 ∧ Below w.heap.size w w' := by
  obtain ⟨i0, hi0, hz0, hz1, hz2⟩ := info_parts info_pc
  have Hi := Lib.hid hi0
  have Hz0 := Lib.hid hz0
  have Hz1 := Lib.hid hz1
  have Hz2 := Lib.hid hz2
  have hl : (flatL l).length = n * 5 := by rw [flatL_length, hn]
  have Hl := Lib.hid hl
  have HP := Lib.hid (fun w2 (h2 : Below w.heap.size w w2) => (hp.below h2 hb).news)
  have hbb := hbd.lt
  obtain ⟨c0, c1, c2⟩ := hbd
  simp only [Nat.zero_add] at c1 c2
  have hml : 0 + n ≤ maxLen := by unfold maxLen; omega
  have ne1 : ¬ w.heap.size = bb := by omega
  have ne2 : ¬ bb = w.heap.size := by omega
  clear hi0 hz0 hz1 hz2 hp hn hl
  go_enter Try.func76, Try.ntmps76
  go_wp2_with fail
  go_region_held_law (fun w' => w'.cell? ⟨bb, 0, none⟩ = some (.int .i8 wd) ∧ w'.cell? ⟨bb, 1, none⟩ = some (.int .i8 hi) ∧ w'.cell? ⟨bb, 2, none⟩ = some (.slice (some ⟨b, o, none⟩) n cap)) (first | exact ⟨u0, u1, u2⟩ | go_keep)
                (first
                | (refine step_append_own rfl _ _ 28 rfl (w.heap.size + 1) 46 i0 _ 5 5 Try.underlying28 Hi.out Hz0.out Hz1.out Hz2.out rfl (by decide) (.slice (some ⟨w.heap.size + 1, 0, none⟩) 0 0) 0 [] rfl (owns_new (Nat.le_refl _) (heap_two _ _ _)) ⟨b, o, none⟩ n cap (flatL l) rfl Hl.out (HP.out _ (by repeat (first | with_reducible exact Below.refl _ _ | (with_reducible refine kSet ?_ ?hB _; case hB => (simp; try omega)) | with_reducible refine kAlloc ?_ _ | with_reducible refine Below.drew ?_ | with_reducible refine kDrewN ?_ _ | with_reducible refine kTrans ?_ (by assumption)))) (flatL_one l) hml (flatL_bytes hmax) (by first | (simp; done) | (simp; omega)) ?_
                   intro v' w1 hown hgr hnil
                   have hG : Below (w.alloc (.cells #[.int .i8 0, .int .i8 0, .slice none 0 0] 30)).heap.size (w.alloc (.cells #[.int .i8 0, .int .i8 0, .slice none 0 0] 30)) w1 := grown_below (v := .slice (some ⟨w.heap.size + 1, 0, none⟩) 0 0) (by repeat (first | with_reducible exact Below.refl _ _ | (with_reducible refine kSet ?_ ?hB _; case hB => (simp; try omega)) | with_reducible refine kAlloc ?_ _ | with_reducible refine Below.drew ?_ | with_reducible refine kDrewN ?_ _ | with_reducible refine kTrans ?_ (by assumption))) hgr (by intro k hk; simp [Value.ownBlock] at hk ⊢; omega)
                   have Hown := Lib.hid (show w1.ownsRow (w.heap.size + 1) 46 5 v' n (flatL l) by simpa using hown)
                   have t0 : w1.cell? ⟨w.heap.size, 0, none⟩ = some (.int .i8 0) := (hG.cell (p := ⟨w.heap.size, 0, none⟩) (by simp)).trans (by simp)
                   have t1 : w1.cell? ⟨w.heap.size, 1, none⟩ = some (.int .i8 0) := (hG.cell (p := ⟨w.heap.size, 1, none⟩) (by simp)).trans (by simp)
                   have t2 : w1.cell? ⟨w.heap.size, 2, none⟩ = some (.slice none 0 0) := (hG.cell (p := ⟨w.heap.size, 2, none⟩) (by simp)).trans (by simp)
                   have tf : ∀ j, w1.frozen? ⟨w.heap.size, j, none⟩ = false := fun j => (hG.frozen (p := ⟨w.heap.size, j, none⟩) (by simp)).trans (frozen_of_row _ _ j _ _ (heap_alloc_new _ _))
                   have HB := Lib.hid (show Below w.heap.size w w1 from Below.trans (kAlloc (Below.refl _ _) _) (hG.mono (by simp)))
                   have hz1 := (hG.size)
                   have u0 := (HB.out.cell (p := ⟨bb, 0, none⟩) hbb).trans c0
                   have u1 := (HB.out.cell (p := ⟨bb, 1, none⟩) hbb).trans c1
                   have u2 := (HB.out.cell (p := ⟨bb, 2, none⟩) hbb).trans c2
                   have Hnn := Lib.hid (show v' ≠ .slice none 0 0 from fun e => by have := (hnil.1 e).1; cases this)
                   obtain ⟨va, vc, rfl⟩ := owns_slice Hown.out
                   clear hown hgr hnil hG))
  all_goals
    go_wp2
    exact bodyPost_ret (v := .agg #[.int .i8 wd, .int .i8 hi, .slice va n vc]) (by simp [results, Try.results76, go_sem, t0, t1, t2]) rfl ⟨_, rfl, owns_mono (Nat.le_succ _) (ownsRow_setCell_below (ownsRow_setCell_below (ownsRow_setCell_below Hown.out (Nat.lt_succ_self _) _) (Nat.lt_succ_self _) _) (Nat.lt_succ_self _) _), Hnn.out, kSet (kSet (kSet HB.out (Nat.le_refl _) _) (Nat.le_refl _) _) (Nat.le_refl _) _⟩
theorem l01Copy_any (bb b o n cap : Nat) (wd hi : Int) (l : List Pc) (w : World) (hn : l.length = n) (hbd : BdAt w bb 0 wd hi (.slice (some ⟨b, o, none⟩) n cap)) (hp : PcsAt w b o l) (hb : b < w.heap.size) (hmax : n ≤ 1048576) :
    Calls Try.prog 76 #[.pointer (some ⟨bb, 0, none⟩)] w fun e w' => ∃ v', e = .returned (.agg #[.int .i8 wd, .int .i8 hi, v']) ∧ w'.ownsRow w.heap.size 46 5 v' n (flatL l) ∧ Below w.heap.size w w' :=
  (l01Copy_nn bb b o n cap wd hi l w hn hbd hp hb hmax).mono fun e w' ⟨v, h1, h2, _, h3⟩ => ⟨v, h1, h2, h3⟩
end Go.Proofs.Ythancdlkkfegnaa
