/- Records of the type Span: cells, slices, and the laws' own functions on them. -/
import Derived.Test.YthngnbaoaeomeaaDoorG1
import Derived.StillTailTactics
import Derived.Deep.RegionHeld3
namespace Go.Proofs.YthngnbaoaeomeaaDoor
open Go.ChangeShapes Go.WideShapes Go.ChangeAt Go.RowKit Go.Joins Go.Deep
set_option linter.unusedVariables false

structure Sq where
  low : Int
  high : Int
deriving DecidableEq
def Sq.wf (p : Sq) : Prop := (Lit.int .i8 p.low).wf = true ∧ (Lit.int .i8 p.high).wf = true
def SqAt (w : World) (b o : Nat) (p : Sq) : Prop :=
  w.cell? ⟨b, o, none⟩ = some (.int .i8 p.low) ∧ w.cell? ⟨b, o + 1, none⟩ = some (.int .i8 p.high)
theorem SqAt.box (w : World) (p : Sq) (t : TypeId) : SqAt (w.alloc (.cells #[.int .i8 p.low, .int .i8 p.high] t)) w.heap.size 0 p := by
  refine ⟨?_, ?_⟩ <;> simp
theorem SqAt.below {W w' : World} {b o : Nat} {p : Sq} (h : SqAt W b o p) (hb : Below W.heap.size W w') (hl : b < W.heap.size) : SqAt w' b o p := by
  obtain ⟨h0, h1⟩ := h
  exact ⟨(hb.cell (p := ⟨b, _, none⟩) hl).trans h0, (hb.cell (p := ⟨b, _, none⟩) hl).trans h1⟩
def SqsAt (w : World) (b o : Nat) (l : List Sq) : Prop := ∀ i (h : i < l.length), SqAt w b (o + i * 2) l[i]
theorem SqsAt.below {W w' : World} {b o : Nat} {l : List Sq} (h : SqsAt W b o l) (hb : Below W.heap.size W w') (hl : b < W.heap.size) : SqsAt w' b o l :=
  fun i hi => (h i hi).below hb hl
def SqsWf (l : List Sq) : Prop := ∀ p ∈ l, p.wf
inductive SlSq (w : World) (l : List Sq) : Value → Prop where
  | empty (a : Option Addr) (cap : Nat) (h : l = []) : SlSq w l (.slice a 0 cap)
  | mk (b o cap : Nat) (hc : SqsAt w b o l) (hb : b < w.heap.size) (hl : l.length ≤ cap) : SlSq w l (.slice (some ⟨b, o, none⟩) l.length cap)
theorem SlSq.below {w w' : World} {l : List Sq} {s : Value} (h : SlSq w l s) (hb : Below w.heap.size w w') : SlSq w' l s := by
  cases h with
  | empty a cap h => exact .empty a cap h
  | mk b o cap hc hbl hl => exact .mk b o cap (hc.below hb hbl) (Nat.lt_of_lt_of_le hbl hb.size) hl

set_option maxHeartbeats 1000000 in
theorem eqSpan_same (p : Sq) (w : World) (hp : p.wf) :
    Calls Tryd.prog 55 #[.agg #[.int .i8 p.low, .int .i8 p.high], .agg #[.int .i8 p.low, .int .i8 p.high]] w fun e w' => e = .returned (.bool true) ∧ Below w.heap.size w w' := by
  obtain ⟨low, high⟩ := p
  go_enter Tryd.func55, Tryd.ntmps55
  go_wp2
  go_ret
  exact ⟨rfl, by repeat (first | with_reducible exact Below.refl _ _ | (with_reducible refine kSet ?_ ?hB _; case hB => (simp; try omega)) | with_reducible refine kAlloc ?_ _ | with_reducible refine Below.drew ?_ | with_reducible refine kDrewN ?_ _ | with_reducible refine kTrans ?_ (by assumption))⟩
set_option maxRecDepth 100000 in
set_option maxHeartbeats 2000000 in
theorem eqSpanS_mk (b1 o1 b2 o2 n c1 c2 : Nat) (l : List Sq) (w : World) (hn : l.length = n) (h1 : SqsAt w b1 o1 l) (h2 : SqsAt w b2 o2 l) (hb1 : b1 < w.heap.size) (hb2 : b2 < w.heap.size) (h8 : SqsWf l) (hc1 : n ≤ c1) (hc2 : n ≤ c2) (hmax : n ≤ 1048576) :
    Calls Tryd.prog 24 #[.slice (some ⟨b1, o1, none⟩) n c1, .slice (some ⟨b2, o2, none⟩) n c2] w fun e w' => e = .returned (.bool true) ∧ Below w.heap.size w w' := by
  have Hn := Lib.hid hn
  clear hn
  go_enter Tryd.func24, Tryd.ntmps24
  go_wp2
  go_loopw [5] (fun i wr => ∃ k : Nat, k ≤ n ∧ i = .int .i64 k ∧ Below w.heap.size w wr) (fun i _ => n - (intOf i).toNat)
  case atStart => exact ⟨0, by omega, rfl, Below.refl _ _⟩
  case round =>
    obtain ⟨k, hk, rfl, hbr⟩ := hrel
    by_cases hlt : k < n
    · have hlk : k < l.length := by rw [Hn.out]; exact hlt
      have hp1 := (h1.below hbr hb1) k hlk
      have hp2 := (h2.below hbr hb2) k hlk
      have hp8 := h8 _ (List.getElem_mem hlk)
      generalize hpe : l[k] = p at hp1 hp2 hp8
      obtain ⟨a0, a1⟩ := hp1
      obtain ⟨d0, d1⟩ := hp2
      clear h1 h2 h8 hpe
      go_wp2
      go_still_tail 8, (by kernel_rfl)
      change wpList _ _ _ _ _ wr.drew
      have hbw : Below w.heap.size w wr.drew := Below.drew hbr
      generalize wr.drew = w2 at hbw ⊢
      go_wp2_with fail
      refine (eqSpan_same p _ hp8).mono ?_
      rintro e w3 ⟨rfl, hb3⟩
      have hb4 := kTrans hbw hb3
      clear hbw hb3
      go_wp2
      exact ⟨⟨k + 1, by omega, by go_num, hb4⟩, by simp [intOf]; omega⟩
    · clear h1 h2 h8
      go_wp2
      go_ret
      exact ⟨rfl, hbr⟩
set_option maxHeartbeats 1000000 in
theorem eqSpanS_empty (a1 a2 : Option Addr) (c1 c2 : Nat) (w : World) :
    Calls Tryd.prog 24 #[.slice a1 0 c1, .slice a2 0 c2] w fun e w' => e = .returned (.bool true) ∧ Below w.heap.size w w' := by
  go_enter Tryd.func24, Tryd.ntmps24
  go_wp2
  refine wp_loop_rounds 1 ?_
  rw [rounds_succ]
  go_wp2
  go_ret
  exact ⟨rfl, Below.refl _ _⟩
theorem eqSpanS_any (v1 v2 : Value) (l : List Sq) (w : World) (h1 : SlSq w l v1) (h2 : SlSq w l v2) (h8 : SqsWf l) (hmax : l.length ≤ 1048576) :
    Calls Tryd.prog 24 #[v1, v2] w fun e w' => e = .returned (.bool true) ∧ Below w.heap.size w w' := by
  cases h1 with
  | empty a cap h =>
    subst h
    cases h2 with
    | empty a2 cap2 h => exact eqSpanS_empty a a2 cap cap2 w
    | mk b o cap2 hc hb hl => exact eqSpanS_empty a _ cap cap2 w
  | mk b o cap hc hb hl =>
    cases h2 with
    | empty a2 cap2 h => subst h; exact eqSpanS_empty _ a2 cap cap2 w
    | mk b2 o2 cap2 hc2 hb2 hl2 => exact eqSpanS_mk b o b2 o2 _ cap cap2 l w rfl hc hc2 hb hb2 h8 hl hl2 hmax
def World.setSq (w : World) (B o : Nat) (p : Sq) : World :=
  ((w.setCell ⟨B, o, none⟩ (.int .i8 p.low)).setCell ⟨B, o + 1, none⟩ (.int .i8 p.high))
theorem setSq_at {w : World} {B o : Nat} {p : Sq} (h : ∀ j, j < 2 → ∃ v, w.cell? ⟨B, o + j, none⟩ = some v) : SqAt (World.setSq w B o p) B o p := by
  obtain ⟨v0, h0⟩ := h 0 (by omega)
  rw [Nat.add_zero] at h0
  obtain ⟨v1, h1⟩ := h 1 (by omega)
  have ne : ∀ a b : Nat, a ≠ b → (⟨B, a, none⟩ : Addr) ≠ ⟨B, b, none⟩ := by intro a b hab e; injection e with _ h2 _; exact hab h2
  unfold World.setSq SqAt
  refine ⟨?_, ?_⟩
  · rw [World.cell?_setCell_other _ _ _ _ (ne _ _ (by omega)), World.cell?_setCell_same _ _ _ (h0)]
  · rw [World.cell?_setCell_same _ _ _ (by rw [World.cell?_setCell_other _ _ _ _ (ne _ _ (by omega))]; exact h1)]
theorem setSq_other {w : World} {B o : Nat} {p : Sq} {b i : Nat} (h : b ≠ B ∨ i < o ∨ o + 2 ≤ i) : (World.setSq w B o p).cell? ⟨b, i, none⟩ = w.cell? ⟨b, i, none⟩ := by
  have ne : ∀ a : Nat, (o ≤ a ∧ a < o + 2) → (⟨B, a, none⟩ : Addr) ≠ ⟨b, i, none⟩ := by intro a hab e; injection e with h1 h2 _; omega
  unfold World.setSq
  rw [World.cell?_setCell_other _ _ _ _ (ne _ (by omega)), World.cell?_setCell_other _ _ _ _ (ne _ (by omega))]
/-- block B is a row of the call's own of n records, whose first k are those of 'l' -/
def FilledSq (w : World) (B n : Nat) (l : List Sq) (k : Nat) : Prop :=
  B < w.heap.size ∧ (∀ i (h : i < l.length), i < k → SqAt w B (0 + i * 2) l[i]) ∧ (∀ j, j < n * 2 → ∃ v, w.cell? ⟨B, j, none⟩ = some v) ∧ (∀ j, w.frozen? ⟨B, j, none⟩ = false)
theorem FilledSq.made {w w' : World} {n B : Nat} {l : List Sq} {e : TypeId} {v : Value} {xs : List Value} (h : w.ownsRow B e 2 (.slice (some ⟨B, 0, none⟩) n n) n xs) : FilledSq w B n l 0 := by
  refine ⟨(h.lt B rfl).2, fun i _ hi => absurd hi (by omega), fun j hj => ?_, fun j => h.frozenAt j⟩
  have hl : xs.length = n * 2 := h.1
  exact ⟨xs[j]'(by omega), by rw [h.cellAt j hj]; exact List.getElem?_eq_getElem (by omega)⟩
theorem FilledSq.below {w w' : World} {n B k : Nat} {l : List Sq} (h : FilledSq w B n l k) (hb : Below w.heap.size w w') : FilledSq w' B n l k := by
  obtain ⟨h1, h2, h3, h4⟩ := h
  refine ⟨Nat.lt_of_lt_of_le h1 hb.size, fun i hi hk => (h2 i hi hk).below hb h1, fun j hj => ?_, fun j => ?_⟩
  · rw [hb.cell (p := ⟨B, j, none⟩) h1]; exact h3 j hj
  · rw [hb.frozen (p := ⟨B, j, none⟩) h1]; exact h4 j
theorem FilledSq.store {w : World} {B n k : Nat} {l : List Sq} {p : Sq} (h : FilledSq w B n l k) (hk : k < l.length) (hp : l[k] = p) (hkn : k < n) : FilledSq (World.setSq w B (k * 2) p) B n l (k + 1) := by
  obtain ⟨h1, h2, h3, h4⟩ := h
  refine ⟨by simpa [World.setSq, World.size_setCell] using h1, fun i hi hik => ?_, fun j hj => ?_, fun j => ?_⟩
  · by_cases e : i = k
    · subst e
      rw [hp, Nat.zero_add]
      exact setSq_at (fun j hj => h3 _ (by omega))
    · obtain ⟨a0, a1⟩ := h2 i hi (by omega)
      exact ⟨by rw [setSq_other (by omega)]; exact a0, by rw [setSq_other (by omega)]; exact a1⟩
  · obtain ⟨v, hv⟩ := h3 j hj
    unfold World.setSq
    obtain ⟨v1, g1⟩ := cell_set (j := k * 2) (v := .int .i8 p.low) hv
    exact cell_set (j := k * 2 + 1) (v := .int .i8 p.high) g1
  · unfold World.setSq
    simp only [World.frozen?_setCell]
    exact h4 j

theorem intsSq_list {cs : List Value} {k0 k1 : IntKind} (h : Ints cs [k0, k1]) : ∃ u0 u1 : Int, cs = [.int k0 u0, .int k1 u1] ∧ (Lit.int k0 u0).wf = true ∧ (Lit.int k1 u1).wf = true := by
  match cs, h with
  | [_, _], ⟨⟨x0, rfl, h0⟩, ⟨x1, rfl, h1⟩, _⟩ => exact ⟨x0, x1, rfl, h0, h1⟩
theorem ints_Sq {cs : List Value} (h : Ints cs [.i8, .i8]) : ∃ p : Sq, cs = [.int .i8 p.low, .int .i8 p.high] ∧ p.wf := by
  obtain ⟨x0, x1, e, h0, h1⟩ := intsSq_list h
  exact ⟨⟨x0, x1⟩, e, h0, h1⟩
theorem Sq_of_cells {w : World} {base b o : Nat} {cs : List Value} (h : w.cells? base ⟨b, o, none⟩ 2 = some cs) (hi : Ints cs [.i8, .i8]) : ∃ p : Sq, SqAt w b o p ∧ p.wf := by
  obtain ⟨p, rfl, hp⟩ := ints_Sq hi
  obtain ⟨_, _, hc⟩ := World.cells?_some h
  have h0 := hc 0 (by omega)
  have h1 := hc 1 (by omega)
  rw [add_none] at h0 h1
  exact ⟨p, ⟨h0, h1⟩, hp⟩
theorem open_Sqs {H : Type} {enc : TypeId × Value → H} {P : Program} {w : World} {base : Nat} {spare : Nat → Bool} {held : Bool} {t e : TypeId} {fuel : Nat} {v : Value} {x : DataW H × List MemPlace}
    (ht : P.underlying t = some (.slice e)) (hce : P.cellsOf e = 2) (hfl : flat P 4 e = some [.i8, .i8]) (h : DataW.trod enc P w base spare held fuel t [v] = some x) :
    ∃ l : List Sq, SlSq w l v ∧ SqsWf l ∧ l.length ≤ maxLen := by
  rcases open_slice ht h with ⟨h0, _⟩ | ⟨a, len, cap, m, n, D, Pl, hcs, hb, hl, hm, hmm, _, hi⟩
  · simp only [List.cons.injEq, and_true] at h0
    subst h0
    exact ⟨[], .empty none 0 rfl, fun _ h => absurd h (by simp), Nat.zero_le _⟩
  · simp only [List.cons.injEq, and_true] at hcs
    subst hcs
    have hml : len ≤ m := by rw [hmm]; split <;> omega
    by_cases h0 : len = 0
    · subst h0
      exact ⟨[], .empty (some a) cap rfl, fun _ h => absurd h (by simp), Nat.zero_le _⟩
    · rw [hce] at hi
      obtain ⟨cs0, hc0, _⟩ := hi 0 (by omega)
      obtain ⟨hs, hbl⟩ := spot_of_cells (by omega) hc0
      obtain ⟨b, o, s⟩ := a
      have hs' : s = none := hs
      have hbl' : b < w.heap.size := hbl
      clear hs hbl hc0
      subst hs'
      have hp : ∀ i, i < len → ∃ p : Sq, SqAt w b (o + i * 2) p ∧ p.wf := by
        intro i hil
        obtain ⟨cs, hc, hx⟩ := hi i (by omega)
        rw [add_none] at hc
        exact Sq_of_cells hc (flat_ints 4 e _ n cs _ hfl hx)
      obtain ⟨F, hF⟩ : ∃ F : Nat → Sq, ∀ i, i < len → SqAt w b (o + i * 2) (F i) ∧ (F i).wf :=
        ⟨fun i => if h : i < len then Classical.choose (hp i h) else ⟨0, 0⟩, fun i h => by simp only [h, dite_true]; exact Classical.choose_spec (hp i h)⟩
      have hlen : ((List.range len).map F).length = len := by simp
      refine ⟨(List.range len).map F, ?_, ?_, by rw [hlen]; omega⟩
      · have := SlSq.mk (w := w) (l := (List.range len).map F) b o cap (fun i hi => by
          rw [hlen] at hi
          simp only [List.getElem_map, List.getElem_range]
          exact (hF i hi).1) hbl' (by rw [hlen]; exact hl)
        rwa [hlen] at this
      · intro p hp
        obtain ⟨i, hi, rfl⟩ := List.mem_map.1 hp
        exact (hF i (List.mem_range.1 hi)).2
end Go.Proofs.YthngnbaoaeomeaaDoor
