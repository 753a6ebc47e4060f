/- Several texts in one: Fl, Pu. -/
import Derived.Test.YthngnbaoaeomeaaDoorG1
import Derived.StillTailTactics
import Derived.Deep.RegionHeld3
/- Records of the type Fall: cells, slices, and the laws' own functions on them. -/
namespace Go.Proofs.YthngnbaoaeomeaaDoor
open Go.ChangeShapes Go.WideShapes Go.ChangeAt Go.RowKit Go.Joins Go.Deep
set_option linter.unusedVariables false

structure Fl where
  tick : Int
  frm : Int
  who : Int
deriving DecidableEq
def Fl.wf (p : Fl) : Prop := (Lit.int .i64 p.tick).wf = true ∧ (Lit.int .i8 p.frm).wf = true ∧ (Lit.int .i64 p.who).wf = true
def FlAt (w : World) (b o : Nat) (p : Fl) : Prop :=
  w.cell? ⟨b, o, none⟩ = some (.int .i64 p.tick) ∧ w.cell? ⟨b, o + 1, none⟩ = some (.int .i8 p.frm) ∧ w.cell? ⟨b, o + 2, none⟩ = some (.int .i64 p.who)
theorem FlAt.box (w : World) (p : Fl) (t : TypeId) : FlAt (w.alloc (.cells #[.int .i64 p.tick, .int .i8 p.frm, .int .i64 p.who] t)) w.heap.size 0 p := by
  refine ⟨?_, ?_, ?_⟩ <;> simp
theorem FlAt.below {W w' : World} {b o : Nat} {p : Fl} (h : FlAt W b o p) (hb : Below W.heap.size W w') (hl : b < W.heap.size) : FlAt w' b o p := by
  obtain ⟨h0, h1, h2⟩ := h
  exact ⟨(hb.cell (p := ⟨b, _, none⟩) hl).trans h0, (hb.cell (p := ⟨b, _, none⟩) hl).trans h1, (hb.cell (p := ⟨b, _, none⟩) hl).trans h2⟩
def FlsAt (w : World) (b o : Nat) (l : List Fl) : Prop := ∀ i (h : i < l.length), FlAt w b (o + i * 3) l[i]
theorem FlsAt.below {W w' : World} {b o : Nat} {l : List Fl} (h : FlsAt W b o l) (hb : Below W.heap.size W w') (hl : b < W.heap.size) : FlsAt w' b o l :=
  fun i hi => (h i hi).below hb hl
def FlsWf (l : List Fl) : Prop := ∀ p ∈ l, p.wf
inductive SlFl (w : World) (l : List Fl) : Value → Prop where
  | empty (a : Option Addr) (cap : Nat) (h : l = []) : SlFl w l (.slice a 0 cap)
  | mk (b o cap : Nat) (hc : FlsAt w b o l) (hb : b < w.heap.size) (hl : l.length ≤ cap) : SlFl w l (.slice (some ⟨b, o, none⟩) l.length cap)
theorem SlFl.below {w w' : World} {l : List Fl} {s : Value} (h : SlFl w l s) (hb : Below w.heap.size w w') : SlFl w' l s := by
  cases h with
  | empty a cap h => exact .empty a cap h
  | mk b o cap hc hbl hl => exact .mk b o cap (hc.below hb hbl) (Nat.lt_of_lt_of_le hbl hb.size) hl

def World.setFl (w : World) (B o : Nat) (p : Fl) : World :=
  (((w.setCell ⟨B, o, none⟩ (.int .i64 p.tick)).setCell ⟨B, o + 1, none⟩ (.int .i8 p.frm)).setCell ⟨B, o + 2, none⟩ (.int .i64 p.who))
theorem setFl_at {w : World} {B o : Nat} {p : Fl} (h : ∀ j, j < 3 → ∃ v, w.cell? ⟨B, o + j, none⟩ = some v) : FlAt (World.setFl w B o p) B o p := by
  obtain ⟨v0, h0⟩ := h 0 (by omega)
  rw [Nat.add_zero] at h0
  obtain ⟨v1, h1⟩ := h 1 (by omega)
  obtain ⟨v2, h2⟩ := h 2 (by omega)
  have ne : ∀ a b : Nat, a ≠ b → (⟨B, a, none⟩ : Addr) ≠ ⟨B, b, none⟩ := by intro a b hab e; injection e with _ h2 _; exact hab h2
  unfold World.setFl FlAt
  refine ⟨?_, ?_, ?_⟩
  · rw [World.cell?_setCell_other _ _ _ _ (ne _ _ (by omega)), World.cell?_setCell_other _ _ _ _ (ne _ _ (by omega)), World.cell?_setCell_same _ _ _ (h0)]
  · rw [World.cell?_setCell_other _ _ _ _ (ne _ _ (by omega)), World.cell?_setCell_same _ _ _ (by rw [World.cell?_setCell_other _ _ _ _ (ne _ _ (by omega))]; exact h1)]
  · rw [World.cell?_setCell_same _ _ _ (by rw [World.cell?_setCell_other _ _ _ _ (ne _ _ (by omega)), World.cell?_setCell_other _ _ _ _ (ne _ _ (by omega))]; exact h2)]
theorem setFl_other {w : World} {B o : Nat} {p : Fl} {b i : Nat} (h : b ≠ B ∨ i < o ∨ o + 3 ≤ i) : (World.setFl w B o p).cell? ⟨b, i, none⟩ = w.cell? ⟨b, i, none⟩ := by
  have ne : ∀ a : Nat, (o ≤ a ∧ a < o + 3) → (⟨B, a, none⟩ : Addr) ≠ ⟨b, i, none⟩ := by intro a hab e; injection e with h1 h2 _; omega
  unfold World.setFl
  rw [World.cell?_setCell_other _ _ _ _ (ne _ (by omega)), World.cell?_setCell_other _ _ _ _ (ne _ (by omega)), World.cell?_setCell_other _ _ _ _ (ne _ (by omega))]
/-- block B is a row of the call's own of n records, whose first k are those of 'l' -/
def FilledFl (w : World) (B n : Nat) (l : List Fl) (k : Nat) : Prop :=
  B < w.heap.size ∧ (∀ i (h : i < l.length), i < k → FlAt w B (0 + i * 3) l[i]) ∧ (∀ j, j < n * 3 → ∃ v, w.cell? ⟨B, j, none⟩ = some v) ∧ (∀ j, w.frozen? ⟨B, j, none⟩ = false)
theorem FilledFl.made {w w' : World} {n B : Nat} {l : List Fl} {e : TypeId} {v : Value} {xs : List Value} (h : w.ownsRow B e 3 (.slice (some ⟨B, 0, none⟩) n n) n xs) : FilledFl w B n l 0 := by
  refine ⟨(h.lt B rfl).2, fun i _ hi => absurd hi (by omega), fun j hj => ?_, fun j => h.frozenAt j⟩
  have hl : xs.length = n * 3 := h.1
  exact ⟨xs[j]'(by omega), by rw [h.cellAt j hj]; exact List.getElem?_eq_getElem (by omega)⟩
theorem FilledFl.below {w w' : World} {n B k : Nat} {l : List Fl} (h : FilledFl w B n l k) (hb : Below w.heap.size w w') : FilledFl w' B n l k := by
  obtain ⟨h1, h2, h3, h4⟩ := h
  refine ⟨Nat.lt_of_lt_of_le h1 hb.size, fun i hi hk => (h2 i hi hk).below hb h1, fun j hj => ?_, fun j => ?_⟩
  · rw [hb.cell (p := ⟨B, j, none⟩) h1]; exact h3 j hj
  · rw [hb.frozen (p := ⟨B, j, none⟩) h1]; exact h4 j
theorem FilledFl.store {w : World} {B n k : Nat} {l : List Fl} {p : Fl} (h : FilledFl w B n l k) (hk : k < l.length) (hp : l[k] = p) (hkn : k < n) : FilledFl (World.setFl w B (k * 3) p) B n l (k + 1) := by
  obtain ⟨h1, h2, h3, h4⟩ := h
  refine ⟨by simpa [World.setFl, World.size_setCell] using h1, fun i hi hik => ?_, fun j hj => ?_, fun j => ?_⟩
  · by_cases e : i = k
    · subst e
      rw [hp, Nat.zero_add]
      exact setFl_at (fun j hj => h3 _ (by omega))
    · obtain ⟨a0, a1, a2⟩ := h2 i hi (by omega)
      exact ⟨by rw [setFl_other (by omega)]; exact a0, by rw [setFl_other (by omega)]; exact a1, by rw [setFl_other (by omega)]; exact a2⟩
  · obtain ⟨v, hv⟩ := h3 j hj
    unfold World.setFl
    obtain ⟨v1, g1⟩ := cell_set (j := k * 3) (v := .int .i64 p.tick) hv
    obtain ⟨v2, g2⟩ := cell_set (j := k * 3 + 1) (v := .int .i8 p.frm) g1
    exact cell_set (j := k * 3 + 2) (v := .int .i64 p.who) g2
  · unfold World.setFl
    simp only [World.frozen?_setCell]
    exact h4 j

theorem intsFl_list {cs : List Value} {k0 k1 k2 : IntKind} (h : Ints cs [k0, k1, k2]) : ∃ u0 u1 u2 : Int, cs = [.int k0 u0, .int k1 u1, .int k2 u2] ∧ (Lit.int k0 u0).wf = true ∧ (Lit.int k1 u1).wf = true ∧ (Lit.int k2 u2).wf = true := by
  match cs, h with
  | [_, _, _], ⟨⟨x0, rfl, h0⟩, ⟨x1, rfl, h1⟩, ⟨x2, rfl, h2⟩, _⟩ => exact ⟨x0, x1, x2, rfl, h0, h1, h2⟩
theorem ints_Fl {cs : List Value} (h : Ints cs [.i64, .i8, .i64]) : ∃ p : Fl, cs = [.int .i64 p.tick, .int .i8 p.frm, .int .i64 p.who] ∧ p.wf := by
  obtain ⟨x0, x1, x2, e, h0, h1, h2⟩ := intsFl_list h
  exact ⟨⟨x0, x1, x2⟩, e, h0, h1, h2⟩
theorem Fl_of_cells {w : World} {base b o : Nat} {cs : List Value} (h : w.cells? base ⟨b, o, none⟩ 3 = some cs) (hi : Ints cs [.i64, .i8, .i64]) : ∃ p : Fl, FlAt w b o p ∧ p.wf := by
  obtain ⟨p, rfl, hp⟩ := ints_Fl hi
  obtain ⟨_, _, hc⟩ := World.cells?_some h
  have h0 := hc 0 (by omega)
  have h1 := hc 1 (by omega)
  have h2 := hc 2 (by omega)
  rw [add_none] at h0 h1 h2
  exact ⟨p, ⟨h0, h1, h2⟩, hp⟩
theorem open_Fls {H : Type} {enc : TypeId × Value → H} {P : Program} {w : World} {base : Nat} {spare : Nat → Bool} {held : Bool} {t e : TypeId} {fuel : Nat} {v : Value} {x : DataW H × List MemPlace}
    (ht : P.underlying t = some (.slice e)) (hce : P.cellsOf e = 3) (hfl : flat P 4 e = some [.i64, .i8, .i64]) (h : DataW.trod enc P w base spare held fuel t [v] = some x) :
    ∃ l : List Fl, SlFl w l v ∧ FlsWf l ∧ l.length ≤ maxLen := by
  rcases open_slice ht h with ⟨h0, _⟩ | ⟨a, len, cap, m, n, D, Pl, hcs, hb, hl, hm, hmm, _, hi⟩
  · simp only [List.cons.injEq, and_true] at h0
    subst h0
    exact ⟨[], .empty none 0 rfl, fun _ h => absurd h (by simp), Nat.zero_le _⟩
  · simp only [List.cons.injEq, and_true] at hcs
    subst hcs
    have hml : len ≤ m := by rw [hmm]; split <;> omega
    by_cases h0 : len = 0
    · subst h0
      exact ⟨[], .empty (some a) cap rfl, fun _ h => absurd h (by simp), Nat.zero_le _⟩
    · rw [hce] at hi
      obtain ⟨cs0, hc0, _⟩ := hi 0 (by omega)
      obtain ⟨hs, hbl⟩ := spot_of_cells (by omega) hc0
      obtain ⟨b, o, s⟩ := a
      have hs' : s = none := hs
      have hbl' : b < w.heap.size := hbl
      clear hs hbl hc0
      subst hs'
      have hp : ∀ i, i < len → ∃ p : Fl, FlAt w b (o + i * 3) p ∧ p.wf := by
        intro i hil
        obtain ⟨cs, hc, hx⟩ := hi i (by omega)
        rw [add_none] at hc
        exact Fl_of_cells hc (flat_ints 4 e _ n cs _ hfl hx)
      obtain ⟨F, hF⟩ : ∃ F : Nat → Fl, ∀ i, i < len → FlAt w b (o + i * 3) (F i) ∧ (F i).wf :=
        ⟨fun i => if h : i < len then Classical.choose (hp i h) else ⟨0, 0, 0⟩, fun i h => by simp only [h, dite_true]; exact Classical.choose_spec (hp i h)⟩
      have hlen : ((List.range len).map F).length = len := by simp
      refine ⟨(List.range len).map F, ?_, ?_, by rw [hlen]; omega⟩
      · have := SlFl.mk (w := w) (l := (List.range len).map F) b o cap (fun i hi => by
          rw [hlen] at hi
          simp only [List.getElem_map, List.getElem_range]
          exact (hF i hi).1) hbl' (by rw [hlen]; exact hl)
        rwa [hlen] at this
      · intro p hp
        obtain ⟨i, hi, rfl⟩ := List.mem_map.1 hp
        exact (hF i (List.mem_range.1 hi)).2
end Go.Proofs.YthngnbaoaeomeaaDoor

/- Records of the type Push: cells, slices, and the laws' own functions on them. -/
namespace Go.Proofs.YthngnbaoaeomeaaDoor
open Go.ChangeShapes Go.WideShapes Go.ChangeAt Go.RowKit Go.Joins Go.Deep
set_option linter.unusedVariables false

structure Pu where
  x : Int
  y : Int
  side : Int
  tick : Int
deriving DecidableEq
def Pu.wf (p : Pu) : Prop := (Lit.int .i8 p.x).wf = true ∧ (Lit.int .i8 p.y).wf = true ∧ (Lit.int .i8 p.side).wf = true ∧ (Lit.int .i16 p.tick).wf = true
def PuAt (w : World) (b o : Nat) (p : Pu) : Prop :=
  w.cell? ⟨b, o, none⟩ = some (.int .i8 p.x) ∧ w.cell? ⟨b, o + 1, none⟩ = some (.int .i8 p.y) ∧ w.cell? ⟨b, o + 2, none⟩ = some (.int .i8 p.side) ∧ w.cell? ⟨b, o + 3, none⟩ = some (.int .i16 p.tick)
theorem PuAt.box (w : World) (p : Pu) (t : TypeId) : PuAt (w.alloc (.cells #[.int .i8 p.x, .int .i8 p.y, .int .i8 p.side, .int .i16 p.tick] t)) w.heap.size 0 p := by
  refine ⟨?_, ?_, ?_, ?_⟩ <;> simp
theorem PuAt.below {W w' : World} {b o : Nat} {p : Pu} (h : PuAt W b o p) (hb : Below W.heap.size W w') (hl : b < W.heap.size) : PuAt w' b o p := by
  obtain ⟨h0, h1, h2, h3⟩ := h
  exact ⟨(hb.cell (p := ⟨b, _, none⟩) hl).trans h0, (hb.cell (p := ⟨b, _, none⟩) hl).trans h1, (hb.cell (p := ⟨b, _, none⟩) hl).trans h2, (hb.cell (p := ⟨b, _, none⟩) hl).trans h3⟩
def PusAt (w : World) (b o : Nat) (l : List Pu) : Prop := ∀ i (h : i < l.length), PuAt w b (o + i * 4) l[i]
theorem PusAt.below {W w' : World} {b o : Nat} {l : List Pu} (h : PusAt W b o l) (hb : Below W.heap.size W w') (hl : b < W.heap.size) : PusAt w' b o l :=
  fun i hi => (h i hi).below hb hl
def PusWf (l : List Pu) : Prop := ∀ p ∈ l, p.wf
inductive SlPu (w : World) (l : List Pu) : Value → Prop where
  | empty (a : Option Addr) (cap : Nat) (h : l = []) : SlPu w l (.slice a 0 cap)
  | mk (b o cap : Nat) (hc : PusAt w b o l) (hb : b < w.heap.size) (hl : l.length ≤ cap) : SlPu w l (.slice (some ⟨b, o, none⟩) l.length cap)
theorem SlPu.below {w w' : World} {l : List Pu} {s : Value} (h : SlPu w l s) (hb : Below w.heap.size w w') : SlPu w' l s := by
  cases h with
  | empty a cap h => exact .empty a cap h
  | mk b o cap hc hbl hl => exact .mk b o cap (hc.below hb hbl) (Nat.lt_of_lt_of_le hbl hb.size) hl

set_option maxHeartbeats 1000000 in
theorem eqPush_same (p : Pu) (w : World) (hp : p.wf) :
    Calls Tryd.prog 46 #[.agg #[.int .i8 p.x, .int .i8 p.y, .int .i8 p.side, .int .i16 p.tick], .agg #[.int .i8 p.x, .int .i8 p.y, .int .i8 p.side, .int .i16 p.tick]] w fun e w' => e = .returned (.bool true) ∧ Below w.heap.size w w' := by
  obtain ⟨x, y, side, tick⟩ := p
  go_enter Tryd.func46, Tryd.ntmps46
  go_wp2_with fail
  refine (eqCell_same _ _ _ (i8_of hp.1) (i8_of hp.2.1)).mono ?_
  rintro e w1 ⟨rfl, hb⟩
  obtain ⟨a0, a1, a2, a3⟩ := ((PuAt.box w ⟨x, y, side, tick⟩ 73).below (w' := (w.alloc (.cells #[.int .i8 x, .int .i8 y, .int .i8 side, .int .i16 tick] 73)).alloc (.cells #[.int .i8 x, .int .i8 y, .int .i8 side, .int .i16 tick] 73)) (by repeat (first | with_reducible exact Below.refl _ _ | (with_reducible refine kSet ?_ ?hB _; case hB => (simp; try omega)) | with_reducible refine kAlloc ?_ _ | with_reducible refine Below.drew ?_ | with_reducible refine kDrewN ?_ _ | with_reducible refine kTrans ?_ (by assumption))) (by simp)).below hb (by simp; omega)
  obtain ⟨b0, b1, b2, b3⟩ := (PuAt.box (w.alloc (.cells #[.int .i8 x, .int .i8 y, .int .i8 side, .int .i16 tick] 73)) ⟨x, y, side, tick⟩ 73).below hb (by simp)
  simp only [World.size_alloc] at b0 b1 b2 b3
  go_wp2
  go_ret
  exact ⟨rfl, by repeat (first | with_reducible exact Below.refl _ _ | (with_reducible refine kSet ?_ ?hB _; case hB => (simp; try omega)) | with_reducible refine kAlloc ?_ _ | with_reducible refine Below.drew ?_ | with_reducible refine kDrewN ?_ _ | with_reducible refine kTrans ?_ (by assumption))⟩
set_option maxRecDepth 100000 in
set_option maxHeartbeats 2000000 in
theorem eqPushS_mk (b1 o1 b2 o2 n c1 c2 : Nat) (l : List Pu) (w : World) (hn : l.length = n) (h1 : PusAt w b1 o1 l) (h2 : PusAt w b2 o2 l) (hb1 : b1 < w.heap.size) (hb2 : b2 < w.heap.size) (h8 : PusWf l) (hc1 : n ≤ c1) (hc2 : n ≤ c2) (hmax : n ≤ 1048576) :
    Calls Tryd.prog 14 #[.slice (some ⟨b1, o1, none⟩) n c1, .slice (some ⟨b2, o2, none⟩) n c2] w fun e w' => e = .returned (.bool true) ∧ Below w.heap.size w w' := by
  have Hn := Lib.hid hn
  clear hn
  go_enter Tryd.func14, Tryd.ntmps14
  go_wp2
  go_loopw [5] (fun i wr => ∃ k : Nat, k ≤ n ∧ i = .int .i64 k ∧ Below w.heap.size w wr) (fun i _ => n - (intOf i).toNat)
  case atStart => exact ⟨0, by omega, rfl, Below.refl _ _⟩
  case round =>
    obtain ⟨k, hk, rfl, hbr⟩ := hrel
    by_cases hlt : k < n
    · have hlk : k < l.length := by rw [Hn.out]; exact hlt
      have hp1 := (h1.below hbr hb1) k hlk
      have hp2 := (h2.below hbr hb2) k hlk
      have hp8 := h8 _ (List.getElem_mem hlk)
      generalize hpe : l[k] = p at hp1 hp2 hp8
      obtain ⟨a0, a1, a2, a3⟩ := hp1
      obtain ⟨d0, d1, d2, d3⟩ := hp2
      clear h1 h2 h8 hpe
      go_wp2
      go_still_tail 8, (by kernel_rfl)
      change wpList _ _ _ _ _ wr.drew
      have hbw : Below w.heap.size w wr.drew := Below.drew hbr
      generalize wr.drew = w2 at hbw ⊢
      go_wp2_with fail
      refine (eqPush_same p _ hp8).mono ?_
      rintro e w3 ⟨rfl, hb3⟩
      have hb4 := kTrans hbw hb3
      clear hbw hb3
      go_wp2
      exact ⟨⟨k + 1, by omega, by go_num, hb4⟩, by simp [intOf]; omega⟩
    · clear h1 h2 h8
      go_wp2
      go_ret
      exact ⟨rfl, hbr⟩
set_option maxHeartbeats 1000000 in
theorem eqPushS_empty (a1 a2 : Option Addr) (c1 c2 : Nat) (w : World) :
    Calls Tryd.prog 14 #[.slice a1 0 c1, .slice a2 0 c2] w fun e w' => e = .returned (.bool true) ∧ Below w.heap.size w w' := by
  go_enter Tryd.func14, Tryd.ntmps14
  go_wp2
  refine wp_loop_rounds 1 ?_
  rw [rounds_succ]
  go_wp2
  go_ret
  exact ⟨rfl, Below.refl _ _⟩
theorem eqPushS_any (v1 v2 : Value) (l : List Pu) (w : World) (h1 : SlPu w l v1) (h2 : SlPu w l v2) (h8 : PusWf l) (hmax : l.length ≤ 1048576) :
    Calls Tryd.prog 14 #[v1, v2] w fun e w' => e = .returned (.bool true) ∧ Below w.heap.size w w' := by
  cases h1 with
  | empty a cap h =>
    subst h
    cases h2 with
    | empty a2 cap2 h => exact eqPushS_empty a a2 cap cap2 w
    | mk b o cap2 hc hb hl => exact eqPushS_empty a _ cap cap2 w
  | mk b o cap hc hb hl =>
    cases h2 with
    | empty a2 cap2 h => subst h; exact eqPushS_empty _ a2 cap cap2 w
    | mk b2 o2 cap2 hc2 hb2 hl2 => exact eqPushS_mk b o b2 o2 _ cap cap2 l w rfl hc hc2 hb hb2 h8 hl hl2 hmax
def World.setPu (w : World) (B o : Nat) (p : Pu) : World :=
  ((((w.setCell ⟨B, o, none⟩ (.int .i8 p.x)).setCell ⟨B, o + 1, none⟩ (.int .i8 p.y)).setCell ⟨B, o + 2, none⟩ (.int .i8 p.side)).setCell ⟨B, o + 3, none⟩ (.int .i16 p.tick))
theorem setPu_at {w : World} {B o : Nat} {p : Pu} (h : ∀ j, j < 4 → ∃ v, w.cell? ⟨B, o + j, none⟩ = some v) : PuAt (World.setPu w B o p) B o p := by
  obtain ⟨v0, h0⟩ := h 0 (by omega)
  rw [Nat.add_zero] at h0
  obtain ⟨v1, h1⟩ := h 1 (by omega)
  obtain ⟨v2, h2⟩ := h 2 (by omega)
  obtain ⟨v3, h3⟩ := h 3 (by omega)
  have ne : ∀ a b : Nat, a ≠ b → (⟨B, a, none⟩ : Addr) ≠ ⟨B, b, none⟩ := by intro a b hab e; injection e with _ h2 _; exact hab h2
  unfold World.setPu PuAt
  refine ⟨?_, ?_, ?_, ?_⟩
  · rw [World.cell?_setCell_other _ _ _ _ (ne _ _ (by omega)), World.cell?_setCell_other _ _ _ _ (ne _ _ (by omega)), World.cell?_setCell_other _ _ _ _ (ne _ _ (by omega)), World.cell?_setCell_same _ _ _ (h0)]
  · rw [World.cell?_setCell_other _ _ _ _ (ne _ _ (by omega)), World.cell?_setCell_other _ _ _ _ (ne _ _ (by omega)), World.cell?_setCell_same _ _ _ (by rw [World.cell?_setCell_other _ _ _ _ (ne _ _ (by omega))]; exact h1)]
  · rw [World.cell?_setCell_other _ _ _ _ (ne _ _ (by omega)), World.cell?_setCell_same _ _ _ (by rw [World.cell?_setCell_other _ _ _ _ (ne _ _ (by omega)), World.cell?_setCell_other _ _ _ _ (ne _ _ (by omega))]; exact h2)]
  · rw [World.cell?_setCell_same _ _ _ (by rw [World.cell?_setCell_other _ _ _ _ (ne _ _ (by omega)), World.cell?_setCell_other _ _ _ _ (ne _ _ (by omega)), World.cell?_setCell_other _ _ _ _ (ne _ _ (by omega))]; exact h3)]
theorem setPu_other {w : World} {B o : Nat} {p : Pu} {b i : Nat} (h : b ≠ B ∨ i < o ∨ o + 4 ≤ i) : (World.setPu w B o p).cell? ⟨b, i, none⟩ = w.cell? ⟨b, i, none⟩ := by
  have ne : ∀ a : Nat, (o ≤ a ∧ a < o + 4) → (⟨B, a, none⟩ : Addr) ≠ ⟨b, i, none⟩ := by intro a hab e; injection e with h1 h2 _; omega
  unfold World.setPu
  rw [World.cell?_setCell_other _ _ _ _ (ne _ (by omega)), World.cell?_setCell_other _ _ _ _ (ne _ (by omega)), World.cell?_setCell_other _ _ _ _ (ne _ (by omega)), World.cell?_setCell_other _ _ _ _ (ne _ (by omega))]
/-- block B is a row of the call's own of n records, whose first k are those of 'l' -/
def FilledPu (w : World) (B n : Nat) (l : List Pu) (k : Nat) : Prop :=
  B < w.heap.size ∧ (∀ i (h : i < l.length), i < k → PuAt w B (0 + i * 4) l[i]) ∧ (∀ j, j < n * 4 → ∃ v, w.cell? ⟨B, j, none⟩ = some v) ∧ (∀ j, w.frozen? ⟨B, j, none⟩ = false)
theorem FilledPu.made {w w' : World} {n B : Nat} {l : List Pu} {e : TypeId} {v : Value} {xs : List Value} (h : w.ownsRow B e 4 (.slice (some ⟨B, 0, none⟩) n n) n xs) : FilledPu w B n l 0 := by
  refine ⟨(h.lt B rfl).2, fun i _ hi => absurd hi (by omega), fun j hj => ?_, fun j => h.frozenAt j⟩
  have hl : xs.length = n * 4 := h.1
  exact ⟨xs[j]'(by omega), by rw [h.cellAt j hj]; exact List.getElem?_eq_getElem (by omega)⟩
theorem FilledPu.below {w w' : World} {n B k : Nat} {l : List Pu} (h : FilledPu w B n l k) (hb : Below w.heap.size w w') : FilledPu w' B n l k := by
  obtain ⟨h1, h2, h3, h4⟩ := h
  refine ⟨Nat.lt_of_lt_of_le h1 hb.size, fun i hi hk => (h2 i hi hk).below hb h1, fun j hj => ?_, fun j => ?_⟩
  · rw [hb.cell (p := ⟨B, j, none⟩) h1]; exact h3 j hj
  · rw [hb.frozen (p := ⟨B, j, none⟩) h1]; exact h4 j
theorem FilledPu.store {w : World} {B n k : Nat} {l : List Pu} {p : Pu} (h : FilledPu w B n l k) (hk : k < l.length) (hp : l[k] = p) (hkn : k < n) : FilledPu (World.setPu w B (k * 4) p) B n l (k + 1) := by
  obtain ⟨h1, h2, h3, h4⟩ := h
  refine ⟨by simpa [World.setPu, World.size_setCell] using h1, fun i hi hik => ?_, fun j hj => ?_, fun j => ?_⟩
  · by_cases e : i = k
    · subst e
      rw [hp, Nat.zero_add]
      exact setPu_at (fun j hj => h3 _ (by omega))
    · obtain ⟨a0, a1, a2, a3⟩ := h2 i hi (by omega)
      exact ⟨by rw [setPu_other (by omega)]; exact a0, by rw [setPu_other (by omega)]; exact a1, by rw [setPu_other (by omega)]; exact a2, by rw [setPu_other (by omega)]; exact a3⟩
  · obtain ⟨v, hv⟩ := h3 j hj
    unfold World.setPu
    obtain ⟨v1, g1⟩ := cell_set (j := k * 4) (v := .int .i8 p.x) hv
    obtain ⟨v2, g2⟩ := cell_set (j := k * 4 + 1) (v := .int .i8 p.y) g1
    obtain ⟨v3, g3⟩ := cell_set (j := k * 4 + 2) (v := .int .i8 p.side) g2
    exact cell_set (j := k * 4 + 3) (v := .int .i16 p.tick) g3
  · unfold World.setPu
    simp only [World.frozen?_setCell]
    exact h4 j

theorem intsPu_list {cs : List Value} {k0 k1 k2 k3 : IntKind} (h : Ints cs [k0, k1, k2, k3]) : ∃ u0 u1 u2 u3 : Int, cs = [.int k0 u0, .int k1 u1, .int k2 u2, .int k3 u3] ∧ (Lit.int k0 u0).wf = true ∧ (Lit.int k1 u1).wf = true ∧ (Lit.int k2 u2).wf = true ∧ (Lit.int k3 u3).wf = true := by
  match cs, h with
  | [_, _, _, _], ⟨⟨x0, rfl, h0⟩, ⟨x1, rfl, h1⟩, ⟨x2, rfl, h2⟩, ⟨x3, rfl, h3⟩, _⟩ => exact ⟨x0, x1, x2, x3, rfl, h0, h1, h2, h3⟩
theorem ints_Pu {cs : List Value} (h : Ints cs [.i8, .i8, .i8, .i16]) : ∃ p : Pu, cs = [.int .i8 p.x, .int .i8 p.y, .int .i8 p.side, .int .i16 p.tick] ∧ p.wf := by
  obtain ⟨x0, x1, x2, x3, e, h0, h1, h2, h3⟩ := intsPu_list h
  exact ⟨⟨x0, x1, x2, x3⟩, e, h0, h1, h2, h3⟩
theorem Pu_of_cells {w : World} {base b o : Nat} {cs : List Value} (h : w.cells? base ⟨b, o, none⟩ 4 = some cs) (hi : Ints cs [.i8, .i8, .i8, .i16]) : ∃ p : Pu, PuAt w b o p ∧ p.wf := by
  obtain ⟨p, rfl, hp⟩ := ints_Pu hi
  obtain ⟨_, _, hc⟩ := World.cells?_some h
  have h0 := hc 0 (by omega)
  have h1 := hc 1 (by omega)
  have h2 := hc 2 (by omega)
  have h3 := hc 3 (by omega)
  rw [add_none] at h0 h1 h2 h3
  exact ⟨p, ⟨h0, h1, h2, h3⟩, hp⟩
theorem open_Pus {H : Type} {enc : TypeId × Value → H} {P : Program} {w : World} {base : Nat} {spare : Nat → Bool} {held : Bool} {t e : TypeId} {fuel : Nat} {v : Value} {x : DataW H × List MemPlace}
    (ht : P.underlying t = some (.slice e)) (hce : P.cellsOf e = 4) (hfl : flat P 4 e = some [.i8, .i8, .i8, .i16]) (h : DataW.trod enc P w base spare held fuel t [v] = some x) :
    ∃ l : List Pu, SlPu w l v ∧ PusWf l ∧ l.length ≤ maxLen := by
  rcases open_slice ht h with ⟨h0, _⟩ | ⟨a, len, cap, m, n, D, Pl, hcs, hb, hl, hm, hmm, _, hi⟩
  · simp only [List.cons.injEq, and_true] at h0
    subst h0
    exact ⟨[], .empty none 0 rfl, fun _ h => absurd h (by simp), Nat.zero_le _⟩
  · simp only [List.cons.injEq, and_true] at hcs
    subst hcs
    have hml : len ≤ m := by rw [hmm]; split <;> omega
    by_cases h0 : len = 0
    · subst h0
      exact ⟨[], .empty (some a) cap rfl, fun _ h => absurd h (by simp), Nat.zero_le _⟩
    · rw [hce] at hi
      obtain ⟨cs0, hc0, _⟩ := hi 0 (by omega)
      obtain ⟨hs, hbl⟩ := spot_of_cells (by omega) hc0
      obtain ⟨b, o, s⟩ := a
      have hs' : s = none := hs
      have hbl' : b < w.heap.size := hbl
      clear hs hbl hc0
      subst hs'
      have hp : ∀ i, i < len → ∃ p : Pu, PuAt w b (o + i * 4) p ∧ p.wf := by
        intro i hil
        obtain ⟨cs, hc, hx⟩ := hi i (by omega)
        rw [add_none] at hc
        exact Pu_of_cells hc (flat_ints 4 e _ n cs _ hfl hx)
      obtain ⟨F, hF⟩ : ∃ F : Nat → Pu, ∀ i, i < len → PuAt w b (o + i * 4) (F i) ∧ (F i).wf :=
        ⟨fun i => if h : i < len then Classical.choose (hp i h) else ⟨0, 0, 0, 0⟩, fun i h => by simp only [h, dite_true]; exact Classical.choose_spec (hp i h)⟩
      have hlen : ((List.range len).map F).length = len := by simp
      refine ⟨(List.range len).map F, ?_, ?_, by rw [hlen]; omega⟩
      · have := SlPu.mk (w := w) (l := (List.range len).map F) b o cap (fun i hi => by
          rw [hlen] at hi
          simp only [List.getElem_map, List.getElem_range]
          exact (hF i hi).1) hbl' (by rw [hlen]; exact hl)
        rwa [hlen] at this
      · intro p hp
        obtain ⟨i, hi, rfl⟩ := List.mem_map.1 hp
        exact (hF i (List.mem_range.1 hi)).2
end Go.Proofs.YthngnbaoaeomeaaDoor
