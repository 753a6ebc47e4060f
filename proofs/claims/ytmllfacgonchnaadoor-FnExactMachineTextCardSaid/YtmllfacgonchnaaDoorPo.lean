/- Records of the type Port: cells, slices, and the laws' own functions on them. -/
import Derived.Test.YtmllfacgonchnaaDoorG1
import Derived.StillTailTactics
import Derived.Deep.RegionHeld3
namespace Go.Proofs.YtmllfacgonchnaaDoor
open Go.ChangeShapes Go.WideShapes Go.ChangeAt Go.RowKit Go.Joins Go.Deep
set_option linter.unusedVariables false

structure Po where
  x : Int
  y : Int
  side : Int
deriving DecidableEq
def Po.wf (p : Po) : Prop := (Lit.int .i8 p.x).wf = true ∧ (Lit.int .i8 p.y).wf = true ∧ (Lit.int .i8 p.side).wf = true
def PoAt (w : World) (b o : Nat) (p : Po) : Prop :=
  w.cell? ⟨b, o, none⟩ = some (.int .i8 p.x) ∧ w.cell? ⟨b, o + 1, none⟩ = some (.int .i8 p.y) ∧ w.cell? ⟨b, o + 2, none⟩ = some (.int .i8 p.side)
theorem PoAt.box (w : World) (p : Po) (t : TypeId) : PoAt (w.alloc (.cells #[.int .i8 p.x, .int .i8 p.y, .int .i8 p.side] t)) w.heap.size 0 p := by
  refine ⟨?_, ?_, ?_⟩ <;> simp
theorem PoAt.below {W w' : World} {b o : Nat} {p : Po} (h : PoAt W b o p) (hb : Below W.heap.size W w') (hl : b < W.heap.size) : PoAt w' b o p := by
  obtain ⟨h0, h1, h2⟩ := h
  exact ⟨(hb.cell (p := ⟨b, _, none⟩) hl).trans h0, (hb.cell (p := ⟨b, _, none⟩) hl).trans h1, (hb.cell (p := ⟨b, _, none⟩) hl).trans h2⟩
def PosAt (w : World) (b o : Nat) (l : List Po) : Prop := ∀ i (h : i < l.length), PoAt w b (o + i * 3) l[i]
theorem PosAt.below {W w' : World} {b o : Nat} {l : List Po} (h : PosAt W b o l) (hb : Below W.heap.size W w') (hl : b < W.heap.size) : PosAt w' b o l :=
  fun i hi => (h i hi).below hb hl
def PosWf (l : List Po) : Prop := ∀ p ∈ l, p.wf
inductive SlPo (w : World) (l : List Po) : Value → Prop where
  | empty (a : Option Addr) (cap : Nat) (h : l = []) : SlPo w l (.slice a 0 cap)
  | mk (b o cap : Nat) (hc : PosAt w b o l) (hb : b < w.heap.size) (hl : l.length ≤ cap) : SlPo w l (.slice (some ⟨b, o, none⟩) l.length cap)
theorem SlPo.below {w w' : World} {l : List Po} {s : Value} (h : SlPo w l s) (hb : Below w.heap.size w w') : SlPo w' l s := by
  cases h with
  | empty a cap h => exact .empty a cap h
  | mk b o cap hc hbl hl => exact .mk b o cap (hc.below hb hbl) (Nat.lt_of_lt_of_le hbl hb.size) hl

theorem szPortS_any (v : Value) (l : List Po) (w : World) (h : SlPo w l v) (left : Int) (hl : l.length ≤ 9223372036854775807) (h0 : 0 ≤ left) (h1 : left ≤ 1048576) :
    Calls Tryd.prog 69 #[v, .int .i64 left] w fun e w' => e = .returned (.int .i64 (if left - l.length < 0 then -1 else left - l.length)) ∧ w = w' := by
  have key : ∀ (a : Option Addr) (n cap : Nat), n ≤ 9223372036854775807 → Calls Tryd.prog 69 #[.slice a n cap, .int .i64 left] w fun e w' => e = .returned (.int .i64 (if left - n < 0 then -1 else left - n)) ∧ w = w' := by
    intro a n cap hn
    by_cases hlt : left - n < 0
    · rw [if_pos hlt]
      go_enter Tryd.func69, Tryd.ntmps69
      go_wp2
      go_ret
      exact ⟨rfl, rfl⟩
    · rw [if_neg hlt]
      go_enter Tryd.func69, Tryd.ntmps69
      go_wp2
      go_ret
      exact ⟨rfl, rfl⟩
  cases h with
  | empty a cap h => subst h; exact key a 0 cap (by decide)
  | mk b o cap hc hb hle => exact key _ _ _ hl
set_option maxHeartbeats 1000000 in
theorem toPort_any (p : Po) (w : World) :
    Calls Tryd.prog 97 #[.agg #[.int .i8 p.x, .int .i8 p.y, .int .i8 p.side]] w fun e w' => e = .returned (.agg #[.int .i8 p.x, .int .i8 p.y, .int .i8 p.side]) ∧ Below w.heap.size w w' := by
  obtain ⟨x, y, side⟩ := p
  go_enter Tryd.func97, Tryd.ntmps97
  go_wp2_with fail
  refine (toCell_any x y _).mono ?_
  rintro e w1 ⟨rfl, hb⟩
  obtain ⟨hc, hf⟩ := bcell hb
  have hz : w.heap.size + 1 + 1 + 1 ≤ w1.heap.size := by have := hb.size; simp at this; omega
  go_wp2
  exact bodyPost_ret (v := .agg #[.int .i8 x, .int .i8 y, .int .i8 side]) (by simp [results, Tryd.results97, go_sem, hc]) rfl ⟨rfl, by repeat (first | with_reducible exact Below.refl _ _ | (with_reducible refine kSet ?_ ?hB _; case hB => (simp; try omega)) | with_reducible refine kAlloc ?_ _ | with_reducible refine Below.drew ?_ | with_reducible refine kDrewN ?_ _ | with_reducible refine kTrans ?_ (by assumption))⟩
set_option maxHeartbeats 1000000 in
theorem eqPort_same (p : Po) (w : World) (hp : p.wf) :
    Calls Tryd.prog 99 #[.agg #[.int .i8 p.x, .int .i8 p.y, .int .i8 p.side], .agg #[.int .i8 p.x, .int .i8 p.y, .int .i8 p.side]] w fun e w' => e = .returned (.bool true) ∧ Below w.heap.size w w' := by
  obtain ⟨x, y, side⟩ := p
  go_enter Tryd.func99, Tryd.ntmps99
  go_wp2_with fail
  refine (eqCell_same _ _ _ (i8_of hp.1) (i8_of hp.2.1)).mono ?_
  rintro e w1 ⟨rfl, hb⟩
  obtain ⟨a0, a1, a2⟩ := ((PoAt.box w ⟨x, y, side⟩ 140).below (w' := (w.alloc (.cells #[.int .i8 x, .int .i8 y, .int .i8 side] 140)).alloc (.cells #[.int .i8 x, .int .i8 y, .int .i8 side] 140)) (by repeat (first | with_reducible exact Below.refl _ _ | (with_reducible refine kSet ?_ ?hB _; case hB => (simp; try omega)) | with_reducible refine kAlloc ?_ _ | with_reducible refine Below.drew ?_ | with_reducible refine kDrewN ?_ _ | with_reducible refine kTrans ?_ (by assumption))) (by simp)).below hb (by simp; omega)
  obtain ⟨b0, b1, b2⟩ := (PoAt.box (w.alloc (.cells #[.int .i8 x, .int .i8 y, .int .i8 side] 140)) ⟨x, y, side⟩ 140).below hb (by simp)
  simp only [World.size_alloc] at b0 b1 b2
  go_wp2
  go_ret
  exact ⟨rfl, by repeat (first | with_reducible exact Below.refl _ _ | (with_reducible refine kSet ?_ ?hB _; case hB => (simp; try omega)) | with_reducible refine kAlloc ?_ _ | with_reducible refine Below.drew ?_ | with_reducible refine kDrewN ?_ _ | with_reducible refine kTrans ?_ (by assumption))⟩
set_option maxRecDepth 100000 in
set_option maxHeartbeats 2000000 in
theorem eqPortS_mk (b1 o1 b2 o2 n c1 c2 : Nat) (l : List Po) (w : World) (hn : l.length = n) (h1 : PosAt w b1 o1 l) (h2 : PosAt w b2 o2 l) (hb1 : b1 < w.heap.size) (hb2 : b2 < w.heap.size) (h8 : PosWf l) (hc1 : n ≤ c1) (hc2 : n ≤ c2) (hmax : n ≤ 1048576) :
    Calls Tryd.prog 76 #[.slice (some ⟨b1, o1, none⟩) n c1, .slice (some ⟨b2, o2, none⟩) n c2] w fun e w' => e = .returned (.bool true) ∧ Below w.heap.size w w' := by
  have Hn := Lib.hid hn
  clear hn
  go_enter Tryd.func76, Tryd.ntmps76
  go_wp2
  go_loopw [5] (fun i wr => ∃ k : Nat, k ≤ n ∧ i = .int .i64 k ∧ Below w.heap.size w wr) (fun i _ => n - (intOf i).toNat)
  case atStart => exact ⟨0, by omega, rfl, Below.refl _ _⟩
  case round =>
    obtain ⟨k, hk, rfl, hbr⟩ := hrel
    by_cases hlt : k < n
    · have hlk : k < l.length := by rw [Hn.out]; exact hlt
      have hp1 := (h1.below hbr hb1) k hlk
      have hp2 := (h2.below hbr hb2) k hlk
      have hp8 := h8 _ (List.getElem_mem hlk)
      generalize hpe : l[k] = p at hp1 hp2 hp8
      obtain ⟨a0, a1, a2⟩ := hp1
      obtain ⟨d0, d1, d2⟩ := hp2
      clear h1 h2 h8 hpe
      go_wp2
      go_still_tail 8, (by kernel_rfl)
      change wpList _ _ _ _ _ wr.drew
      have hbw : Below w.heap.size w wr.drew := Below.drew hbr
      generalize wr.drew = w2 at hbw ⊢
      go_wp2_with fail
      refine (eqPort_same p _ hp8).mono ?_
      rintro e w3 ⟨rfl, hb3⟩
      have hb4 := kTrans hbw hb3
      clear hbw hb3
      go_wp2
      exact ⟨⟨k + 1, by omega, by go_num, hb4⟩, by simp [intOf]; omega⟩
    · clear h1 h2 h8
      go_wp2
      go_ret
      exact ⟨rfl, hbr⟩
set_option maxHeartbeats 1000000 in
theorem eqPortS_empty (a1 a2 : Option Addr) (c1 c2 : Nat) (w : World) :
    Calls Tryd.prog 76 #[.slice a1 0 c1, .slice a2 0 c2] w fun e w' => e = .returned (.bool true) ∧ Below w.heap.size w w' := by
  go_enter Tryd.func76, Tryd.ntmps76
  go_wp2
  refine wp_loop_rounds 1 ?_
  rw [rounds_succ]
  go_wp2
  go_ret
  exact ⟨rfl, Below.refl _ _⟩
theorem eqPortS_any (v1 v2 : Value) (l : List Po) (w : World) (h1 : SlPo w l v1) (h2 : SlPo w l v2) (h8 : PosWf l) (hmax : l.length ≤ 1048576) :
    Calls Tryd.prog 76 #[v1, v2] w fun e w' => e = .returned (.bool true) ∧ Below w.heap.size w w' := by
  cases h1 with
  | empty a cap h =>
    subst h
    cases h2 with
    | empty a2 cap2 h => exact eqPortS_empty a a2 cap cap2 w
    | mk b o cap2 hc hb hl => exact eqPortS_empty a _ cap cap2 w
  | mk b o cap hc hb hl =>
    cases h2 with
    | empty a2 cap2 h => subst h; exact eqPortS_empty _ a2 cap cap2 w
    | mk b2 o2 cap2 hc2 hb2 hl2 => exact eqPortS_mk b o b2 o2 _ cap cap2 l w rfl hc hc2 hb hb2 h8 hl hl2 hmax
def World.setPo (w : World) (B o : Nat) (p : Po) : World :=
  (((w.setCell ⟨B, o, none⟩ (.int .i8 p.x)).setCell ⟨B, o + 1, none⟩ (.int .i8 p.y)).setCell ⟨B, o + 2, none⟩ (.int .i8 p.side))
theorem setPo_at {w : World} {B o : Nat} {p : Po} (h : ∀ j, j < 3 → ∃ v, w.cell? ⟨B, o + j, none⟩ = some v) : PoAt (World.setPo w B o p) B o p := by
  obtain ⟨v0, h0⟩ := h 0 (by omega)
  rw [Nat.add_zero] at h0
  obtain ⟨v1, h1⟩ := h 1 (by omega)
  obtain ⟨v2, h2⟩ := h 2 (by omega)
  have ne : ∀ a b : Nat, a ≠ b → (⟨B, a, none⟩ : Addr) ≠ ⟨B, b, none⟩ := by intro a b hab e; injection e with _ h2 _; exact hab h2
  unfold World.setPo PoAt
  refine ⟨?_, ?_, ?_⟩
  · rw [World.cell?_setCell_other _ _ _ _ (ne _ _ (by omega)), World.cell?_setCell_other _ _ _ _ (ne _ _ (by omega)), World.cell?_setCell_same _ _ _ (h0)]
  · rw [World.cell?_setCell_other _ _ _ _ (ne _ _ (by omega)), World.cell?_setCell_same _ _ _ (by rw [World.cell?_setCell_other _ _ _ _ (ne _ _ (by omega))]; exact h1)]
  · rw [World.cell?_setCell_same _ _ _ (by rw [World.cell?_setCell_other _ _ _ _ (ne _ _ (by omega)), World.cell?_setCell_other _ _ _ _ (ne _ _ (by omega))]; exact h2)]
theorem setPo_other {w : World} {B o : Nat} {p : Po} {b i : Nat} (h : b ≠ B ∨ i < o ∨ o + 3 ≤ i) : (World.setPo w B o p).cell? ⟨b, i, none⟩ = w.cell? ⟨b, i, none⟩ := by
  have ne : ∀ a : Nat, (o ≤ a ∧ a < o + 3) → (⟨B, a, none⟩ : Addr) ≠ ⟨b, i, none⟩ := by intro a hab e; injection e with h1 h2 _; omega
  unfold World.setPo
  rw [World.cell?_setCell_other _ _ _ _ (ne _ (by omega)), World.cell?_setCell_other _ _ _ _ (ne _ (by omega)), World.cell?_setCell_other _ _ _ _ (ne _ (by omega))]
/-- block B is a row of the call's own of n records, whose first k are those of 'l' -/
def FilledPo (w : World) (B n : Nat) (l : List Po) (k : Nat) : Prop :=
  B < w.heap.size ∧ (∀ i (h : i < l.length), i < k → PoAt w B (0 + i * 3) l[i]) ∧ (∀ j, j < n * 3 → ∃ v, w.cell? ⟨B, j, none⟩ = some v) ∧ (∀ j, w.frozen? ⟨B, j, none⟩ = false)
theorem FilledPo.made {w w' : World} {n B : Nat} {l : List Po} {e : TypeId} {v : Value} {xs : List Value} (h : w.ownsRow B e 3 (.slice (some ⟨B, 0, none⟩) n n) n xs) : FilledPo w B n l 0 := by
  refine ⟨(h.lt B rfl).2, fun i _ hi => absurd hi (by omega), fun j hj => ?_, fun j => h.frozenAt j⟩
  have hl : xs.length = n * 3 := h.1
  exact ⟨xs[j]'(by omega), by rw [h.cellAt j hj]; exact List.getElem?_eq_getElem (by omega)⟩
theorem FilledPo.below {w w' : World} {n B k : Nat} {l : List Po} (h : FilledPo w B n l k) (hb : Below w.heap.size w w') : FilledPo w' B n l k := by
  obtain ⟨h1, h2, h3, h4⟩ := h
  refine ⟨Nat.lt_of_lt_of_le h1 hb.size, fun i hi hk => (h2 i hi hk).below hb h1, fun j hj => ?_, fun j => ?_⟩
  · rw [hb.cell (p := ⟨B, j, none⟩) h1]; exact h3 j hj
  · rw [hb.frozen (p := ⟨B, j, none⟩) h1]; exact h4 j
theorem FilledPo.store {w : World} {B n k : Nat} {l : List Po} {p : Po} (h : FilledPo w B n l k) (hk : k < l.length) (hp : l[k] = p) (hkn : k < n) : FilledPo (World.setPo w B (k * 3) p) B n l (k + 1) := by
  obtain ⟨h1, h2, h3, h4⟩ := h
  refine ⟨by simpa [World.setPo, World.size_setCell] using h1, fun i hi hik => ?_, fun j hj => ?_, fun j => ?_⟩
  · by_cases e : i = k
    · subst e
      rw [hp, Nat.zero_add]
      exact setPo_at (fun j hj => h3 _ (by omega))
    · obtain ⟨a0, a1, a2⟩ := h2 i hi (by omega)
      exact ⟨by rw [setPo_other (by omega)]; exact a0, by rw [setPo_other (by omega)]; exact a1, by rw [setPo_other (by omega)]; exact a2⟩
  · obtain ⟨v, hv⟩ := h3 j hj
    unfold World.setPo
    obtain ⟨v1, g1⟩ := cell_set (j := k * 3) (v := .int .i8 p.x) hv
    obtain ⟨v2, g2⟩ := cell_set (j := k * 3 + 1) (v := .int .i8 p.y) g1
    exact cell_set (j := k * 3 + 2) (v := .int .i8 p.side) g2
  · unfold World.setPo
    simp only [World.frozen?_setCell]
    exact h4 j

theorem info_Po : (Tryd.prog.info? 140).map (fun i => (i.zero, i.size, i.bytes)) = some (some (.agg #[.int .i8 0, .int .i8 0, .int .i8 0]), 3, 3) := by kernel_rfl
set_option maxRecDepth 100000 in
set_option maxHeartbeats 2000000 in
theorem toPortS_some (b o n cap : Nat) (l : List Po) (w : World) (hc : PosAt w b o l) (hb : b < w.heap.size) (hn : l.length = n) (hcap : n ≤ cap) (hmax : n ≤ 1048576) :
    Calls Tryd.prog 73 #[.slice (some ⟨b, o, none⟩) n cap] w fun e w' => e = .returned (.slice (some ⟨w.heap.size, 0, none⟩) n n) ∧ PosAt w' w.heap.size 0 l ∧ w.heap.size < w'.heap.size ∧ (∀ j, w'.frozen? ⟨w.heap.size, j, none⟩ = false) ∧ Below w.heap.size w w' := by
  obtain ⟨i0, hi, hz0, hz1, hz2⟩ := info_parts info_Po
  have Hn := Lib.hid hn
  clear hn
  go_enter Tryd.func73, Tryd.ntmps73
  go_wp2_with (refine wpList_make_full _ rfl _ _ 70 rfl w.heap.size 140 i0 _ 3 Tryd.underlying70 hi hz0 hz1 _ _ _ _ n rfl rfl rfl rfl ?c1 ?c2 ?c3 ?_)
  case c1 => rw [hz2]; omega
  case c2 => unfold maxLen; omega
  case c3 => exact Nat.le_refl _
  intro w1 hown hgr
  have hF : FilledPo w1 w.heap.size n l 0 := FilledPo.made (w' := w) (v := .int .i8 0) hown
  have hB : Below w.heap.size w w1 := (Below.refl _ _).grown hgr (Nat.le_refl _) (by intro k hk; cases hk)
  clear hown hgr hz0 hz1 hz2 hi i0
  go_wp2
  go_loopw [4] (fun i wr => ∃ k : Nat, k ≤ n ∧ i = .int .i64 k ∧ FilledPo wr w.heap.size n l k ∧ Below w.heap.size w wr) (fun i _ => n - (intOf i).toNat)
  case atStart => exact ⟨0, by omega, rfl, hF, hB⟩
  case round =>
    obtain ⟨k, hk, rfl, hf, hbr⟩ := hrel
    by_cases hlt : k < n
    · have hlk : k < l.length := by rw [Hn.out]; exact hlt
      have hpc := (hc.below hbr hb) k hlk
      generalize hpe : l[k] = p at hpc
      have Hp := Lib.hid hpe
      clear hpe
      obtain ⟨c0, c1, c2⟩ := hpc
      clear hc hF hB
      go_wp2_with fail
      refine (toPort_any p _).mono ?_
      rintro e w2 ⟨rfl, hb2⟩
      have hf2 := hf.below hb2
      have hbr2 := kTrans hbr hb2
      obtain ⟨hs2, hd2, hx2, hz2⟩ := hf2
      obtain ⟨v0, d0⟩ := hx2 (k * 3) (by omega)
      obtain ⟨v1, d1⟩ := hx2 (k * 3 + 1) (by omega)
      obtain ⟨v2, d2⟩ := hx2 (k * 3 + 2) (by omega)
      have f0 := hz2 (k * 3)
      have f1 := hz2 (k * 3 + 1)
      have f2 := hz2 (k * 3 + 2)
      have HF := Lib.hid ((hf.below hb2).store hlk Hp.out hlt)
      have HB : Hid (Below w.heap.size w (World.setPo w2 w.heap.size (k * 3) p)) := Lib.hid (kSet (kSet (kSet hbr2 (Nat.le_refl _) _) (Nat.le_refl _) _) (Nat.le_refl _) _)
      clear hd2 hx2 hz2 hf hb2 hbr hbr2
      go_wp2
      exact ⟨⟨k + 1, by omega, by go_num, HF.out, HB.out⟩, by simp [intOf]; omega⟩
    · have e : k = n := by omega
      have H1 : Hid (PosAt wr w.heap.size 0 l) := Lib.hid (fun i hi => hf.2.1 i hi (by rw [e, ← Hn.out]; exact hi))
      have H2 := hf.1
      have H3 : Hid (∀ j, wr.frozen? ⟨w.heap.size, j, none⟩ = false) := Lib.hid hf.2.2.2
      clear e hf hF hB hc
      go_wp2
      go_ret
      exact ⟨rfl, H1.out, H2, H3.out, hbr⟩
set_option maxRecDepth 100000 in
set_option maxHeartbeats 2000000 in
theorem toPortS_empty (a : Option Addr) (cap : Nat) (w : World) :
    Calls Tryd.prog 73 #[.slice a 0 cap] w fun e w' => e = .returned (.slice (some ⟨w.heap.size, 0, none⟩) 0 0) ∧ w.heap.size < w'.heap.size ∧ (∀ j, w'.frozen? ⟨w.heap.size, j, none⟩ = false) ∧ Below w.heap.size w w' := by
  obtain ⟨i0, hi, hz0, hz1, hz2⟩ := info_parts info_Po
  go_enter Tryd.func73, Tryd.ntmps73
  go_wp2_with (refine wpList_make_full _ rfl _ _ 70 rfl w.heap.size 140 i0 _ 3 Tryd.underlying70 hi hz0 hz1 _ _ _ _ 0 rfl rfl rfl rfl ?c1 ?c2 ?c3 ?_)
  case c1 => rw [hz2]; omega
  case c2 => unfold maxLen; omega
  case c3 => exact Nat.le_refl _
  intro w1 hown hgr
  have hF : FilledPo w1 w.heap.size 0 [] 0 := FilledPo.made (w' := w) (v := .int .i8 0) hown
  have hB : Below w.heap.size w w1 := (Below.refl _ _).grown hgr (Nat.le_refl _) (by intro k hk; cases hk)
  have hs := hF.1
  have H3 : Hid (∀ j, w1.frozen? ⟨w.heap.size, j, none⟩ = false) := Lib.hid hF.2.2.2
  clear hown hgr hz0 hz1 hz2 hi i0 hF
  go_wp2
  refine wp_loop_rounds 1 ?_
  rw [rounds_succ]
  go_wp2
  go_ret
  exact ⟨rfl, hs, H3.out, hB⟩
theorem toPortS_any (v : Value) (l : List Po) (w : World) (h : SlPo w l v) (hmax : l.length ≤ 1048576) :
    Calls Tryd.prog 73 #[v] w fun e w' => e = .returned (.slice (some ⟨w.heap.size, 0, none⟩) l.length l.length) ∧ PosAt w' w.heap.size 0 l ∧ w.heap.size < w'.heap.size ∧ (∀ j, w'.frozen? ⟨w.heap.size, j, none⟩ = false) ∧ Below w.heap.size w w' := by
  cases h with
  | empty a cap h => subst h; exact (toPortS_empty a cap w).mono fun e w' ⟨h1, h2, h3, h4⟩ => ⟨h1, fun i hi => absurd hi (by simp), h2, h3, h4⟩
  | mk b o cap hc hb hl => exact toPortS_some b o _ cap l w hc hb rfl hl hmax
theorem intsPo_list {cs : List Value} {k0 k1 k2 : IntKind} (h : Ints cs [k0, k1, k2]) : ∃ u0 u1 u2 : Int, cs = [.int k0 u0, .int k1 u1, .int k2 u2] ∧ (Lit.int k0 u0).wf = true ∧ (Lit.int k1 u1).wf = true ∧ (Lit.int k2 u2).wf = true := by
  match cs, h with
  | [_, _, _], ⟨⟨x0, rfl, h0⟩, ⟨x1, rfl, h1⟩, ⟨x2, rfl, h2⟩, _⟩ => exact ⟨x0, x1, x2, rfl, h0, h1, h2⟩
theorem ints_Po {cs : List Value} (h : Ints cs [.i8, .i8, .i8]) : ∃ p : Po, cs = [.int .i8 p.x, .int .i8 p.y, .int .i8 p.side] ∧ p.wf := by
  obtain ⟨x0, x1, x2, e, h0, h1, h2⟩ := intsPo_list h
  exact ⟨⟨x0, x1, x2⟩, e, h0, h1, h2⟩
theorem Po_of_cells {w : World} {base b o : Nat} {cs : List Value} (h : w.cells? base ⟨b, o, none⟩ 3 = some cs) (hi : Ints cs [.i8, .i8, .i8]) : ∃ p : Po, PoAt w b o p ∧ p.wf := by
  obtain ⟨p, rfl, hp⟩ := ints_Po hi
  obtain ⟨_, _, hc⟩ := World.cells?_some h
  have h0 := hc 0 (by omega)
  have h1 := hc 1 (by omega)
  have h2 := hc 2 (by omega)
  rw [add_none] at h0 h1 h2
  exact ⟨p, ⟨h0, h1, h2⟩, hp⟩
theorem open_Pos {H : Type} {enc : TypeId × Value → H} {P : Program} {w : World} {base : Nat} {spare : Nat → Bool} {held : Bool} {t e : TypeId} {fuel : Nat} {v : Value} {x : DataW H × List MemPlace}
    (ht : P.underlying t = some (.slice e)) (hce : P.cellsOf e = 3) (hfl : flat P 4 e = some [.i8, .i8, .i8]) (h : DataW.trod enc P w base spare held fuel t [v] = some x) :
    ∃ l : List Po, SlPo w l v ∧ PosWf l ∧ l.length ≤ maxLen := by
  rcases open_slice ht h with ⟨h0, _⟩ | ⟨a, len, cap, m, n, D, Pl, hcs, hb, hl, hm, hmm, _, hi⟩
  · simp only [List.cons.injEq, and_true] at h0
    subst h0
    exact ⟨[], .empty none 0 rfl, fun _ h => absurd h (by simp), Nat.zero_le _⟩
  · simp only [List.cons.injEq, and_true] at hcs
    subst hcs
    have hml : len ≤ m := by rw [hmm]; split <;> omega
    by_cases h0 : len = 0
    · subst h0
      exact ⟨[], .empty (some a) cap rfl, fun _ h => absurd h (by simp), Nat.zero_le _⟩
    · rw [hce] at hi
      obtain ⟨cs0, hc0, _⟩ := hi 0 (by omega)
      obtain ⟨hs, hbl⟩ := spot_of_cells (by omega) hc0
      obtain ⟨b, o, s⟩ := a
      have hs' : s = none := hs
      have hbl' : b < w.heap.size := hbl
      clear hs hbl hc0
      subst hs'
      have hp : ∀ i, i < len → ∃ p : Po, PoAt w b (o + i * 3) p ∧ p.wf := by
        intro i hil
        obtain ⟨cs, hc, hx⟩ := hi i (by omega)
        rw [add_none] at hc
        exact Po_of_cells hc (flat_ints 4 e _ n cs _ hfl hx)
      obtain ⟨F, hF⟩ : ∃ F : Nat → Po, ∀ i, i < len → PoAt w b (o + i * 3) (F i) ∧ (F i).wf :=
        ⟨fun i => if h : i < len then Classical.choose (hp i h) else ⟨0, 0, 0⟩, fun i h => by simp only [h, dite_true]; exact Classical.choose_spec (hp i h)⟩
      have hlen : ((List.range len).map F).length = len := by simp
      refine ⟨(List.range len).map F, ?_, ?_, by rw [hlen]; omega⟩
      · have := SlPo.mk (w := w) (l := (List.range len).map F) b o cap (fun i hi => by
          rw [hlen] at hi
          simp only [List.getElem_map, List.getElem_range]
          exact (hF i hi).1) hbl' (by rw [hlen]; exact hl)
        rwa [hlen] at this
      · intro p hp
        obtain ⟨i, hi, rfl⟩ := List.mem_map.1 hp
        exact (hF i (List.mem_range.1 hi)).2
theorem Po_cells : Tryd.prog.cellsOf 170 = 3 := by kernel_rfl
set_option maxRecDepth 100000 in
theorem Po_flat : flat Tryd.prog 4 170 = some [.i8, .i8, .i8] := by kernel_rfl
end Go.Proofs.YtmllfacgonchnaaDoor
