/- Several texts in one: Nd, Ndk, Sh, Ne. -/
import Derived.Test.YtobhppkcgioheaaDoorG1
import Derived.StillTailTactics
import Derived.Deep.RegionHeld3
import Derived.Test.YtobhppkcgioheaaDoorG4
import Derived.Outline
import Derived.Deep.DeepCutAuto
/- Records of the type Node: cells, slices, and the laws' own functions on them. -/
namespace Go.Proofs.YtobhppkcgioheaaDoor
open Go.ChangeShapes Go.WideShapes Go.ChangeAt Go.RowKit Go.Joins Go.Deep
set_option linter.unusedVariables false

structure Nd where
  kind : Int
  a : Int
  b : Int
deriving DecidableEq
def Nd.wf (p : Nd) : Prop := (Lit.int .i8 p.kind).wf = true ∧ (Lit.int .i16 p.a).wf = true ∧ (Lit.int .i16 p.b).wf = true
def NdAt (w : World) (b o : Nat) (p : Nd) : Prop :=
  w.cell? ⟨b, o, none⟩ = some (.int .i8 p.kind) ∧ w.cell? ⟨b, o + 1, none⟩ = some (.int .i16 p.a) ∧ w.cell? ⟨b, o + 2, none⟩ = some (.int .i16 p.b)
theorem NdAt.box (w : World) (p : Nd) (t : TypeId) : NdAt (w.alloc (.cells #[.int .i8 p.kind, .int .i16 p.a, .int .i16 p.b] t)) w.heap.size 0 p := by
  refine ⟨?_, ?_, ?_⟩ <;> simp
theorem NdAt.below {W w' : World} {b o : Nat} {p : Nd} (h : NdAt W b o p) (hb : Below W.heap.size W w') (hl : b < W.heap.size) : NdAt w' b o p := by
  obtain ⟨h0, h1, h2⟩ := h
  exact ⟨(hb.cell (p := ⟨b, _, none⟩) hl).trans h0, (hb.cell (p := ⟨b, _, none⟩) hl).trans h1, (hb.cell (p := ⟨b, _, none⟩) hl).trans h2⟩
def NdsAt (w : World) (b o : Nat) (l : List Nd) : Prop := ∀ i (h : i < l.length), NdAt w b (o + i * 3) l[i]
theorem NdsAt.below {W w' : World} {b o : Nat} {l : List Nd} (h : NdsAt W b o l) (hb : Below W.heap.size W w') (hl : b < W.heap.size) : NdsAt w' b o l :=
  fun i hi => (h i hi).below hb hl
def NdsWf (l : List Nd) : Prop := ∀ p ∈ l, p.wf
inductive SlNd (w : World) (l : List Nd) : Value → Prop where
  | empty (a : Option Addr) (cap : Nat) (h : l = []) : SlNd w l (.slice a 0 cap)
  | mk (b o cap : Nat) (hc : NdsAt w b o l) (hb : b < w.heap.size) (hl : l.length ≤ cap) : SlNd w l (.slice (some ⟨b, o, none⟩) l.length cap)
theorem SlNd.below {w w' : World} {l : List Nd} {s : Value} (h : SlNd w l s) (hb : Below w.heap.size w w') : SlNd w' l s := by
  cases h with
  | empty a cap h => exact .empty a cap h
  | mk b o cap hc hbl hl => exact .mk b o cap (hc.below hb hbl) (Nat.lt_of_lt_of_le hbl hb.size) hl

theorem szNodeS_any (v : Value) (l : List Nd) (w : World) (h : SlNd w l v) (left : Int) (hl : l.length ≤ 9223372036854775807) (h0 : 0 ≤ left) (h1 : left ≤ 1048576) :
    Calls Tryd.prog 81 #[v, .int .i64 left] w fun e w' => e = .returned (.int .i64 (if left - l.length < 0 then -1 else left - l.length)) ∧ w = w' := by
  have key : ∀ (a : Option Addr) (n cap : Nat), n ≤ 9223372036854775807 → Calls Tryd.prog 81 #[.slice a n cap, .int .i64 left] w fun e w' => e = .returned (.int .i64 (if left - n < 0 then -1 else left - n)) ∧ w = w' := by
    intro a n cap hn
    by_cases hlt : left - n < 0
    · rw [if_pos hlt]
      go_enter Tryd.func81, Tryd.ntmps81
      go_wp2
      go_ret
      exact ⟨rfl, rfl⟩
    · rw [if_neg hlt]
      go_enter Tryd.func81, Tryd.ntmps81
      go_wp2
      go_ret
      exact ⟨rfl, rfl⟩
  cases h with
  | empty a cap h => subst h; exact key a 0 cap (by decide)
  | mk b o cap hc hb hle => exact key _ _ _ hl
set_option maxHeartbeats 1000000 in
theorem toNode_any (p : Nd) (w : World) :
    Calls Tryd.prog 122 #[.agg #[.int .i8 p.kind, .int .i16 p.a, .int .i16 p.b]] w fun e w' => e = .returned (.agg #[.int .i8 p.kind, .int .i16 p.a, .int .i16 p.b]) ∧ Below w.heap.size w w' := by
  obtain ⟨kind, a, b⟩ := p
  go_enter Tryd.func122, Tryd.ntmps122
  go_wp2
  exact bodyPost_ret (v := .agg #[.int .i8 kind, .int .i16 a, .int .i16 b]) (by simp [results, Tryd.results122, go_sem]) rfl ⟨rfl, by repeat (first | with_reducible exact Below.refl _ _ | (with_reducible refine kSet ?_ ?hB _; case hB => (simp; try omega)) | with_reducible refine kAlloc ?_ _ | with_reducible refine Below.drew ?_ | with_reducible refine kDrewN ?_ _ | with_reducible refine kTrans ?_ (by assumption))⟩
set_option maxHeartbeats 1000000 in
theorem eqNode_same (p : Nd) (w : World) (hp : p.wf) :
    Calls Tryd.prog 120 #[.agg #[.int .i8 p.kind, .int .i16 p.a, .int .i16 p.b], .agg #[.int .i8 p.kind, .int .i16 p.a, .int .i16 p.b]] w fun e w' => e = .returned (.bool true) ∧ Below w.heap.size w w' := by
  obtain ⟨kind, a, b⟩ := p
  go_enter Tryd.func120, Tryd.ntmps120
  go_wp2
  go_ret
  exact ⟨rfl, by repeat (first | with_reducible exact Below.refl _ _ | (with_reducible refine kSet ?_ ?hB _; case hB => (simp; try omega)) | with_reducible refine kAlloc ?_ _ | with_reducible refine Below.drew ?_ | with_reducible refine kDrewN ?_ _ | with_reducible refine kTrans ?_ (by assumption))⟩
set_option maxRecDepth 100000 in
set_option maxHeartbeats 2000000 in
theorem eqNodeS_mk (b1 o1 b2 o2 n c1 c2 : Nat) (l : List Nd) (w : World) (hn : l.length = n) (h1 : NdsAt w b1 o1 l) (h2 : NdsAt w b2 o2 l) (hb1 : b1 < w.heap.size) (hb2 : b2 < w.heap.size) (h8 : NdsWf l) (hc1 : n ≤ c1) (hc2 : n ≤ c2) (hmax : n ≤ 1048576) :
    Calls Tryd.prog 75 #[.slice (some ⟨b1, o1, none⟩) n c1, .slice (some ⟨b2, o2, none⟩) n c2] w fun e w' => e = .returned (.bool true) ∧ Below w.heap.size w w' := by
  have Hn := Lib.hid hn
  clear hn
  go_enter Tryd.func75, Tryd.ntmps75
  go_wp2
  go_loopw [5] (fun i wr => ∃ k : Nat, k ≤ n ∧ i = .int .i64 k ∧ Below w.heap.size w wr) (fun i _ => n - (intOf i).toNat)
  case atStart => exact ⟨0, by omega, rfl, Below.refl _ _⟩
  case round =>
    obtain ⟨k, hk, rfl, hbr⟩ := hrel
    by_cases hlt : k < n
    · have hlk : k < l.length := by rw [Hn.out]; exact hlt
      have hp1 := (h1.below hbr hb1) k hlk
      have hp2 := (h2.below hbr hb2) k hlk
      have hp8 := h8 _ (List.getElem_mem hlk)
      generalize hpe : l[k] = p at hp1 hp2 hp8
      obtain ⟨a0, a1, a2⟩ := hp1
      obtain ⟨d0, d1, d2⟩ := hp2
      clear h1 h2 h8 hpe
      go_wp2
      go_still_tail 8, (by kernel_rfl)
      change wpList _ _ _ _ _ wr.drew
      have hbw : Below w.heap.size w wr.drew := Below.drew hbr
      generalize wr.drew = w2 at hbw ⊢
      go_wp2_with fail
      refine (eqNode_same p _ hp8).mono ?_
      rintro e w3 ⟨rfl, hb3⟩
      have hb4 := kTrans hbw hb3
      clear hbw hb3
      go_wp2
      exact ⟨⟨k + 1, by omega, by go_num, hb4⟩, by simp [intOf]; omega⟩
    · clear h1 h2 h8
      go_wp2
      go_ret
      exact ⟨rfl, hbr⟩
set_option maxHeartbeats 1000000 in
theorem eqNodeS_empty (a1 a2 : Option Addr) (c1 c2 : Nat) (w : World) :
    Calls Tryd.prog 75 #[.slice a1 0 c1, .slice a2 0 c2] w fun e w' => e = .returned (.bool true) ∧ Below w.heap.size w w' := by
  go_enter Tryd.func75, Tryd.ntmps75
  go_wp2
  refine wp_loop_rounds 1 ?_
  rw [rounds_succ]
  go_wp2
  go_ret
  exact ⟨rfl, Below.refl _ _⟩
theorem eqNodeS_any (v1 v2 : Value) (l : List Nd) (w : World) (h1 : SlNd w l v1) (h2 : SlNd w l v2) (h8 : NdsWf l) (hmax : l.length ≤ 1048576) :
    Calls Tryd.prog 75 #[v1, v2] w fun e w' => e = .returned (.bool true) ∧ Below w.heap.size w w' := by
  cases h1 with
  | empty a cap h =>
    subst h
    cases h2 with
    | empty a2 cap2 h => exact eqNodeS_empty a a2 cap cap2 w
    | mk b o cap2 hc hb hl => exact eqNodeS_empty a _ cap cap2 w
  | mk b o cap hc hb hl =>
    cases h2 with
    | empty a2 cap2 h => subst h; exact eqNodeS_empty _ a2 cap cap2 w
    | mk b2 o2 cap2 hc2 hb2 hl2 => exact eqNodeS_mk b o b2 o2 _ cap cap2 l w rfl hc hc2 hb hb2 h8 hl hl2 hmax
def World.setNd (w : World) (B o : Nat) (p : Nd) : World :=
  (((w.setCell ⟨B, o, none⟩ (.int .i8 p.kind)).setCell ⟨B, o + 1, none⟩ (.int .i16 p.a)).setCell ⟨B, o + 2, none⟩ (.int .i16 p.b))
theorem setNd_at {w : World} {B o : Nat} {p : Nd} (h : ∀ j, j < 3 → ∃ v, w.cell? ⟨B, o + j, none⟩ = some v) : NdAt (World.setNd w B o p) B o p := by
  obtain ⟨v0, h0⟩ := h 0 (by omega)
  rw [Nat.add_zero] at h0
  obtain ⟨v1, h1⟩ := h 1 (by omega)
  obtain ⟨v2, h2⟩ := h 2 (by omega)
  have ne : ∀ a b : Nat, a ≠ b → (⟨B, a, none⟩ : Addr) ≠ ⟨B, b, none⟩ := by intro a b hab e; injection e with _ h2 _; exact hab h2
  unfold World.setNd NdAt
  refine ⟨?_, ?_, ?_⟩
  · rw [World.cell?_setCell_other _ _ _ _ (ne _ _ (by omega)), World.cell?_setCell_other _ _ _ _ (ne _ _ (by omega)), World.cell?_setCell_same _ _ _ (h0)]
  · rw [World.cell?_setCell_other _ _ _ _ (ne _ _ (by omega)), World.cell?_setCell_same _ _ _ (by rw [World.cell?_setCell_other _ _ _ _ (ne _ _ (by omega))]; exact h1)]
  · rw [World.cell?_setCell_same _ _ _ (by rw [World.cell?_setCell_other _ _ _ _ (ne _ _ (by omega)), World.cell?_setCell_other _ _ _ _ (ne _ _ (by omega))]; exact h2)]
theorem setNd_other {w : World} {B o : Nat} {p : Nd} {b i : Nat} (h : b ≠ B ∨ i < o ∨ o + 3 ≤ i) : (World.setNd w B o p).cell? ⟨b, i, none⟩ = w.cell? ⟨b, i, none⟩ := by
  have ne : ∀ a : Nat, (o ≤ a ∧ a < o + 3) → (⟨B, a, none⟩ : Addr) ≠ ⟨b, i, none⟩ := by intro a hab e; injection e with h1 h2 _; omega
  unfold World.setNd
  rw [World.cell?_setCell_other _ _ _ _ (ne _ (by omega)), World.cell?_setCell_other _ _ _ _ (ne _ (by omega)), World.cell?_setCell_other _ _ _ _ (ne _ (by omega))]
/-- block B is a row of the call's own of n records, whose first k are those of 'l' -/
def FilledNd (w : World) (B n : Nat) (l : List Nd) (k : Nat) : Prop :=
  B < w.heap.size ∧ (∀ i (h : i < l.length), i < k → NdAt w B (0 + i * 3) l[i]) ∧ (∀ j, j < n * 3 → ∃ v, w.cell? ⟨B, j, none⟩ = some v) ∧ (∀ j, w.frozen? ⟨B, j, none⟩ = false)
theorem FilledNd.made {w w' : World} {n B : Nat} {l : List Nd} {e : TypeId} {v : Value} {xs : List Value} (h : w.ownsRow B e 3 (.slice (some ⟨B, 0, none⟩) n n) n xs) : FilledNd w B n l 0 := by
  refine ⟨(h.lt B rfl).2, fun i _ hi => absurd hi (by omega), fun j hj => ?_, fun j => h.frozenAt j⟩
  have hl : xs.length = n * 3 := h.1
  exact ⟨xs[j]'(by omega), by rw [h.cellAt j hj]; exact List.getElem?_eq_getElem (by omega)⟩
theorem FilledNd.below {w w' : World} {n B k : Nat} {l : List Nd} (h : FilledNd w B n l k) (hb : Below w.heap.size w w') : FilledNd w' B n l k := by
  obtain ⟨h1, h2, h3, h4⟩ := h
  refine ⟨Nat.lt_of_lt_of_le h1 hb.size, fun i hi hk => (h2 i hi hk).below hb h1, fun j hj => ?_, fun j => ?_⟩
  · rw [hb.cell (p := ⟨B, j, none⟩) h1]; exact h3 j hj
  · rw [hb.frozen (p := ⟨B, j, none⟩) h1]; exact h4 j
theorem FilledNd.store {w : World} {B n k : Nat} {l : List Nd} {p : Nd} (h : FilledNd w B n l k) (hk : k < l.length) (hp : l[k] = p) (hkn : k < n) : FilledNd (World.setNd w B (k * 3) p) B n l (k + 1) := by
  obtain ⟨h1, h2, h3, h4⟩ := h
  refine ⟨by simpa [World.setNd, World.size_setCell] using h1, fun i hi hik => ?_, fun j hj => ?_, fun j => ?_⟩
  · by_cases e : i = k
    · subst e
      rw [hp, Nat.zero_add]
      exact setNd_at (fun j hj => h3 _ (by omega))
    · obtain ⟨a0, a1, a2⟩ := h2 i hi (by omega)
      exact ⟨by rw [setNd_other (by omega)]; exact a0, by rw [setNd_other (by omega)]; exact a1, by rw [setNd_other (by omega)]; exact a2⟩
  · obtain ⟨v, hv⟩ := h3 j hj
    unfold World.setNd
    obtain ⟨v1, g1⟩ := cell_set (j := k * 3) (v := .int .i8 p.kind) hv
    obtain ⟨v2, g2⟩ := cell_set (j := k * 3 + 1) (v := .int .i16 p.a) g1
    exact cell_set (j := k * 3 + 2) (v := .int .i16 p.b) g2
  · unfold World.setNd
    simp only [World.frozen?_setCell]
    exact h4 j

theorem info_Nd : (Tryd.prog.info? 119).map (fun i => (i.zero, i.size, i.bytes)) = some (some (.agg #[.int .i8 0, .int .i16 0, .int .i16 0]), 3, 6) := by kernel_rfl
set_option maxRecDepth 100000 in
set_option maxHeartbeats 2000000 in
theorem toNodeS_some (b o n cap : Nat) (l : List Nd) (w : World) (hc : NdsAt w b o l) (hb : b < w.heap.size) (hn : l.length = n) (hcap : n ≤ cap) (hmax : n ≤ 1048576) :
    Calls Tryd.prog 84 #[.slice (some ⟨b, o, none⟩) n cap] w fun e w' => e = .returned (.slice (some ⟨w.heap.size, 0, none⟩) n n) ∧ NdsAt w' w.heap.size 0 l ∧ w.heap.size < w'.heap.size ∧ (∀ j, w'.frozen? ⟨w.heap.size, j, none⟩ = false) ∧ Below w.heap.size w w' := by
  obtain ⟨i0, hi, hz0, hz1, hz2⟩ := info_parts info_Nd
  have Hn := Lib.hid hn
  clear hn
  go_enter Tryd.func84, Tryd.ntmps84
  go_wp2_with (refine wpList_make_full _ rfl _ _ 53 rfl w.heap.size 119 i0 _ 3 Tryd.underlying53 hi hz0 hz1 _ _ _ _ n rfl rfl rfl rfl ?c1 ?c2 ?c3 ?_)
  case c1 => rw [hz2]; omega
  case c2 => unfold maxLen; omega
  case c3 => exact Nat.le_refl _
  intro w1 hown hgr
  have hF : FilledNd w1 w.heap.size n l 0 := FilledNd.made (w' := w) (v := .int .i8 0) hown
  have hB : Below w.heap.size w w1 := (Below.refl _ _).grown hgr (Nat.le_refl _) (by intro k hk; cases hk)
  clear hown hgr hz0 hz1 hz2 hi i0
  go_wp2
  go_loopw [4] (fun i wr => ∃ k : Nat, k ≤ n ∧ i = .int .i64 k ∧ FilledNd wr w.heap.size n l k ∧ Below w.heap.size w wr) (fun i _ => n - (intOf i).toNat)
  case atStart => exact ⟨0, by omega, rfl, hF, hB⟩
  case round =>
    obtain ⟨k, hk, rfl, hf, hbr⟩ := hrel
    by_cases hlt : k < n
    · have hlk : k < l.length := by rw [Hn.out]; exact hlt
      have hpc := (hc.below hbr hb) k hlk
      generalize hpe : l[k] = p at hpc
      have Hp := Lib.hid hpe
      clear hpe
      obtain ⟨c0, c1, c2⟩ := hpc
      clear hc hF hB
      go_wp2_with fail
      refine (toNode_any p _).mono ?_
      rintro e w2 ⟨rfl, hb2⟩
      have hf2 := hf.below hb2
      have hbr2 := kTrans hbr hb2
      obtain ⟨hs2, hd2, hx2, hz2⟩ := hf2
      obtain ⟨v0, d0⟩ := hx2 (k * 3) (by omega)
      obtain ⟨v1, d1⟩ := hx2 (k * 3 + 1) (by omega)
      obtain ⟨v2, d2⟩ := hx2 (k * 3 + 2) (by omega)
      have f0 := hz2 (k * 3)
      have f1 := hz2 (k * 3 + 1)
      have f2 := hz2 (k * 3 + 2)
      have HF := Lib.hid ((hf.below hb2).store hlk Hp.out hlt)
      have HB : Hid (Below w.heap.size w (World.setNd w2 w.heap.size (k * 3) p)) := Lib.hid (kSet (kSet (kSet hbr2 (Nat.le_refl _) _) (Nat.le_refl _) _) (Nat.le_refl _) _)
      clear hd2 hx2 hz2 hf hb2 hbr hbr2
      go_wp2
      exact ⟨⟨k + 1, by omega, by go_num, HF.out, HB.out⟩, by simp [intOf]; omega⟩
    · have e : k = n := by omega
      have H1 : Hid (NdsAt wr w.heap.size 0 l) := Lib.hid (fun i hi => hf.2.1 i hi (by rw [e, ← Hn.out]; exact hi))
      have H2 := hf.1
      have H3 : Hid (∀ j, wr.frozen? ⟨w.heap.size, j, none⟩ = false) := Lib.hid hf.2.2.2
      clear e hf hF hB hc
      go_wp2
      go_ret
      exact ⟨rfl, H1.out, H2, H3.out, hbr⟩
set_option maxRecDepth 100000 in
set_option maxHeartbeats 2000000 in
theorem toNodeS_empty (a : Option Addr) (cap : Nat) (w : World) :
    Calls Tryd.prog 84 #[.slice a 0 cap] w fun e w' => e = .returned (.slice (some ⟨w.heap.size, 0, none⟩) 0 0) ∧ w.heap.size < w'.heap.size ∧ (∀ j, w'.frozen? ⟨w.heap.size, j, none⟩ = false) ∧ Below w.heap.size w w' := by
  obtain ⟨i0, hi, hz0, hz1, hz2⟩ := info_parts info_Nd
  go_enter Tryd.func84, Tryd.ntmps84
  go_wp2_with (refine wpList_make_full _ rfl _ _ 53 rfl w.heap.size 119 i0 _ 3 Tryd.underlying53 hi hz0 hz1 _ _ _ _ 0 rfl rfl rfl rfl ?c1 ?c2 ?c3 ?_)
  case c1 => rw [hz2]; omega
  case c2 => unfold maxLen; omega
  case c3 => exact Nat.le_refl _
  intro w1 hown hgr
  have hF : FilledNd w1 w.heap.size 0 [] 0 := FilledNd.made (w' := w) (v := .int .i8 0) hown
  have hB : Below w.heap.size w w1 := (Below.refl _ _).grown hgr (Nat.le_refl _) (by intro k hk; cases hk)
  have hs := hF.1
  have H3 : Hid (∀ j, w1.frozen? ⟨w.heap.size, j, none⟩ = false) := Lib.hid hF.2.2.2
  clear hown hgr hz0 hz1 hz2 hi i0 hF
  go_wp2
  refine wp_loop_rounds 1 ?_
  rw [rounds_succ]
  go_wp2
  go_ret
  exact ⟨rfl, hs, H3.out, hB⟩
theorem toNodeS_any (v : Value) (l : List Nd) (w : World) (h : SlNd w l v) (hmax : l.length ≤ 1048576) :
    Calls Tryd.prog 84 #[v] w fun e w' => e = .returned (.slice (some ⟨w.heap.size, 0, none⟩) l.length l.length) ∧ NdsAt w' w.heap.size 0 l ∧ w.heap.size < w'.heap.size ∧ (∀ j, w'.frozen? ⟨w.heap.size, j, none⟩ = false) ∧ Below w.heap.size w w' := by
  cases h with
  | empty a cap h => subst h; exact (toNodeS_empty a cap w).mono fun e w' ⟨h1, h2, h3, h4⟩ => ⟨h1, fun i hi => absurd hi (by simp), h2, h3, h4⟩
  | mk b o cap hc hb hl => exact toNodeS_some b o _ cap l w hc hb rfl hl hmax
theorem intsNd_list {cs : List Value} {k0 k1 k2 : IntKind} (h : Ints cs [k0, k1, k2]) : ∃ u0 u1 u2 : Int, cs = [.int k0 u0, .int k1 u1, .int k2 u2] ∧ (Lit.int k0 u0).wf = true ∧ (Lit.int k1 u1).wf = true ∧ (Lit.int k2 u2).wf = true := by
  match cs, h with
  | [_, _, _], ⟨⟨x0, rfl, h0⟩, ⟨x1, rfl, h1⟩, ⟨x2, rfl, h2⟩, _⟩ => exact ⟨x0, x1, x2, rfl, h0, h1, h2⟩
theorem ints_Nd {cs : List Value} (h : Ints cs [.i8, .i16, .i16]) : ∃ p : Nd, cs = [.int .i8 p.kind, .int .i16 p.a, .int .i16 p.b] ∧ p.wf := by
  obtain ⟨x0, x1, x2, e, h0, h1, h2⟩ := intsNd_list h
  exact ⟨⟨x0, x1, x2⟩, e, h0, h1, h2⟩
theorem Nd_of_cells {w : World} {base b o : Nat} {cs : List Value} (h : w.cells? base ⟨b, o, none⟩ 3 = some cs) (hi : Ints cs [.i8, .i16, .i16]) : ∃ p : Nd, NdAt w b o p ∧ p.wf := by
  obtain ⟨p, rfl, hp⟩ := ints_Nd hi
  obtain ⟨_, _, hc⟩ := World.cells?_some h
  have h0 := hc 0 (by omega)
  have h1 := hc 1 (by omega)
  have h2 := hc 2 (by omega)
  rw [add_none] at h0 h1 h2
  exact ⟨p, ⟨h0, h1, h2⟩, hp⟩
theorem open_Nds {H : Type} {enc : TypeId × Value → H} {P : Program} {w : World} {base : Nat} {spare : Nat → Bool} {held : Bool} {t e : TypeId} {fuel : Nat} {v : Value} {x : DataW H × List MemPlace}
    (ht : P.underlying t = some (.slice e)) (hce : P.cellsOf e = 3) (hfl : flat P 4 e = some [.i8, .i16, .i16]) (h : DataW.trod enc P w base spare held fuel t [v] = some x) :
    ∃ l : List Nd, SlNd w l v ∧ NdsWf l ∧ l.length ≤ maxLen := by
  rcases open_slice ht h with ⟨h0, _⟩ | ⟨a, len, cap, m, n, D, Pl, hcs, hb, hl, hm, hmm, _, hi⟩
  · simp only [List.cons.injEq, and_true] at h0
    subst h0
    exact ⟨[], .empty none 0 rfl, fun _ h => absurd h (by simp), Nat.zero_le _⟩
  · simp only [List.cons.injEq, and_true] at hcs
    subst hcs
    have hml : len ≤ m := by rw [hmm]; split <;> omega
    by_cases h0 : len = 0
    · subst h0
      exact ⟨[], .empty (some a) cap rfl, fun _ h => absurd h (by simp), Nat.zero_le _⟩
    · rw [hce] at hi
      obtain ⟨cs0, hc0, _⟩ := hi 0 (by omega)
      obtain ⟨hs, hbl⟩ := spot_of_cells (by omega) hc0
      obtain ⟨b, o, s⟩ := a
      have hs' : s = none := hs
      have hbl' : b < w.heap.size := hbl
      clear hs hbl hc0
      subst hs'
      have hp : ∀ i, i < len → ∃ p : Nd, NdAt w b (o + i * 3) p ∧ p.wf := by
        intro i hil
        obtain ⟨cs, hc, hx⟩ := hi i (by omega)
        rw [add_none] at hc
        exact Nd_of_cells hc (flat_ints 4 e _ n cs _ hfl hx)
      obtain ⟨F, hF⟩ : ∃ F : Nat → Nd, ∀ i, i < len → NdAt w b (o + i * 3) (F i) ∧ (F i).wf :=
        ⟨fun i => if h : i < len then Classical.choose (hp i h) else ⟨0, 0, 0⟩, fun i h => by simp only [h, dite_true]; exact Classical.choose_spec (hp i h)⟩
      have hlen : ((List.range len).map F).length = len := by simp
      refine ⟨(List.range len).map F, ?_, ?_, by rw [hlen]; omega⟩
      · have := SlNd.mk (w := w) (l := (List.range len).map F) b o cap (fun i hi => by
          rw [hlen] at hi
          simp only [List.getElem_map, List.getElem_range]
          exact (hF i hi).1) hbl' (by rw [hlen]; exact hl)
        rwa [hlen] at this
      · intro p hp
        obtain ⟨i, hi, rfl⟩ := List.mem_map.1 hp
        exact (hF i (List.mem_range.1 hi)).2
theorem Nd_cells : Tryd.prog.cellsOf 189 = 3 := by kernel_rfl
set_option maxRecDepth 100000 in
theorem Nd_flat : flat Tryd.prog 4 189 = some [.i8, .i16, .i16] := by kernel_rfl
end Go.Proofs.YtobhppkcgioheaaDoor

/- Slices of the type Node that a call has made: where they lie; the laws' own marking of them; copies. -/
namespace Go.Proofs.YtobhppkcgioheaaDoor
open Go.ChangeShapes Go.WideShapes Go.ChangeAt Go.RowKit Go.Joins Go.Deep
set_option linter.unusedVariables false

theorem NdsAt.out {lo hi : Nat} {w w' : World} {b o : Nat} {l : List Nd} (h : NdsAt w b o l) (g : KeptOut lo hi w w') (hb : b < w.heap.size) (ho : b < lo ∨ hi ≤ b) : NdsAt w' b o l := by
  intro i hi'
  obtain ⟨h0, h1, h2⟩ := h i hi'
  exact ⟨(g.cell hb ho).trans h0, (g.cell hb ho).trans h1, (g.cell hb ho).trans h2⟩
inductive SlWNd (lo hi : Nat) (w : World) (l : List Nd) : Value → Prop where
  | empty (a : Option Addr) (cap : Nat) (h : l = []) : SlWNd lo hi w l (.slice a 0 cap)
  | mk (b o cap : Nat) (hc : NdsAt w b o l) (h1 : lo ≤ b) (h2 : b < hi) (hb : b < w.heap.size) (hf : ∀ j, w.frozen? ⟨b, j, none⟩ = false) (hl : l.length ≤ cap) : SlWNd lo hi w l (.slice (some ⟨b, o, none⟩) l.length cap)
theorem SlWNd.sl {lo hi : Nat} {w : World} {l : List Nd} {v : Value} (h : SlWNd lo hi w l v) : SlNd w l v := by
  cases h with
  | empty a cap h => exact .empty a cap h
  | mk b o cap hc _ _ hb _ hl => exact .mk b o cap hc hb hl
theorem SlWNd.below {lo hi : Nat} {w w' : World} {l : List Nd} {v : Value} (h : SlWNd lo hi w l v) (g : Below w.heap.size w w') : SlWNd lo hi w' l v := by
  cases h with
  | empty a cap h => exact .empty a cap h
  | mk b o cap hc h1 h2 hb hf hl => exact .mk b o cap (hc.below g hb) h1 h2 (Nat.lt_of_lt_of_le hb g.size) (fun j => (g.frozen (p := ⟨b, j, none⟩) hb).trans (hf j)) hl
theorem SlWNd.out {lo hi lo2 hi2 : Nat} {w w' : World} {l : List Nd} {v : Value} (h : SlWNd lo hi w l v) (g : KeptOut lo2 hi2 w w') (ho : hi ≤ lo2 ∨ hi2 ≤ lo) : SlWNd lo hi w' l v := by
  cases h with
  | empty a cap h => exact .empty a cap h
  | mk b o cap hc h1 h2 hb hf hl => exact .mk b o cap (hc.out g hb (by omega)) h1 h2 (Nat.lt_of_lt_of_le hb g.size) (fun j => (g.frozen hb (by omega)).trans (hf j)) hl
theorem SlWNd.mono {lo hi lo2 hi2 : Nat} {w : World} {l : List Nd} {v : Value} (h : SlWNd lo hi w l v) (h1 : lo2 ≤ lo) (h2 : hi ≤ hi2) : SlWNd lo2 hi2 w l v := by
  cases h with
  | empty a cap h => exact .empty a cap h
  | mk b o cap hc h1 h2 hb hf hl => exact .mk b o cap hc (by omega) (by omega) hb hf hl
theorem SlWNd.form {lo hi : Nat} {w : World} {l : List Nd} {v : Value} (h : SlWNd lo hi w l v) : ∃ a c, v = .slice a l.length c := by
  cases h with
  | empty a cap h => exact ⟨a, cap, by rw [h]; rfl⟩
  | mk b o cap _ _ _ _ _ _ => exact ⟨_, cap, rfl⟩
inductive SlONd (B : Nat) (w : World) (l : List Nd) : Value → Prop where
  | empty (a : Option Addr) (cap : Nat) (h : l = []) : SlONd B w l (.slice a 0 cap)
  | mk (b o cap : Nat) (hc : NdsAt w b o l) (hB : b < B) (hb : b < w.heap.size) (hl : l.length ≤ cap) : SlONd B w l (.slice (some ⟨b, o, none⟩) l.length cap)
theorem SlONd.sl {B : Nat} {w : World} {l : List Nd} {v : Value} (h : SlONd B w l v) : SlNd w l v := by
  cases h with
  | empty a cap h => exact .empty a cap h
  | mk b o cap hc _ hb hl => exact .mk b o cap hc hb hl
theorem SlONd.start {w : World} {l : List Nd} {v : Value} (h : SlNd w l v) : SlONd w.heap.size w l v := by
  cases h with
  | empty a cap h => exact .empty a cap h
  | mk b o cap hc hb hl => exact .mk b o cap hc hb hb hl
theorem SlONd.below {B : Nat} {w w' : World} {l : List Nd} {v : Value} (h : SlONd B w l v) (g : Below w.heap.size w w') : SlONd B w' l v := by
  cases h with
  | empty a cap h => exact .empty a cap h
  | mk b o cap hc hB hb hl => exact .mk b o cap (hc.below g hb) hB (Nat.lt_of_lt_of_le hb g.size) hl
theorem SlONd.out {B lo hi : Nat} {w w' : World} {l : List Nd} {v : Value} (h : SlONd B w l v) (g : KeptOut lo hi w w') (ho : B ≤ lo) : SlONd B w' l v := by
  cases h with
  | empty a cap h => exact .empty a cap h
  | mk b o cap hc hB hb hl => exact .mk b o cap (hc.out g hb (Or.inl (by omega))) hB (Nat.lt_of_lt_of_le hb g.size) hl

def Nd.cells (p : Nd) : List Value := [.int .i8 p.kind, .int .i16 p.a, .int .i16 p.b]
def flatNd (l : List Nd) : List Value := l.flatMap Nd.cells
theorem flatNd_length (l : List Nd) : (flatNd l).length = l.length * 3 := by
  induction l with
  | nil => rfl
  | cons p l ih => simp only [flatNd, List.flatMap_cons, List.length_append, List.length_cons] at *; rw [ih]; simp only [Nd.cells, List.length_cons, List.length_nil]; omega
theorem Nd_one (p : Nd) : ∀ u ∈ p.cells, u.oneCell' = true := by
  intro u hu
  simp only [Nd.cells, List.mem_cons, List.not_mem_nil, or_false] at hu
  rcases hu with rfl | rfl | rfl <;> rfl
theorem flatNd_one (l : List Nd) : ∀ u ∈ flatNd l, u.oneCell' = true := by
  intro u hu
  obtain ⟨p, _, hp⟩ := List.mem_flatMap.1 hu
  exact Nd_one p u hp
theorem flatNd_end (l : List Nd) (p : Nd) : flatNd (l ++ [p]) = flatNd l ++ p.cells := by simp [flatNd]
theorem flatNd_get : ∀ (l : List Nd) (i j : Nat) (h : i < l.length), j < 3 → (flatNd l)[i * 3 + j]? = l[i].cells[j]?
  | p :: l, 0, j, _, hj => by
    rw [show flatNd (p :: l) = p.cells ++ flatNd l from List.flatMap_cons, List.getElem?_append_left (by simp [Nd.cells]; omega)]; simp
  | p :: l, i + 1, j, h, hj => by
    rw [show flatNd (p :: l) = p.cells ++ flatNd l from List.flatMap_cons, List.getElem?_append_right (by simp [Nd.cells]; omega)]
    have := flatNd_get l i j (by simpa using h) hj
    simp only [List.getElem_cons_succ]
    rw [← this]
    congr 1
    simp [Nd.cells]; omega
  | [], _, _, h, _ => by simp at h
theorem NdsAt.news {w : World} {b o : Nat} {l : List Nd} (h : NdsAt w b o l) : ∀ j u, (flatNd l)[j]? = some u → w.cell? ((⟨b, o, none⟩ : Addr).add j) = some u := by
  intro j u hu
  rw [add_none]
  have hj : j < (flatNd l).length := by
    cases hlt : decide (j < (flatNd l).length) with
    | true => simpa using hlt
    | false => rw [List.getElem?_eq_none (by simpa using hlt)] at hu; cases hu
  rw [flatNd_length] at hj
  have hi : j / 3 < l.length := by omega
  have e : j / 3 * 3 + j % 3 = j := by omega
  have hg := flatNd_get l (j / 3) (j % 3) hi (by omega)
  rw [e, hu] at hg
  obtain ⟨h0, h1, h2⟩ := h (j / 3) hi
  have h5 : j % 3 = 0 ∨ j % 3 = 1 ∨ j % 3 = 2 := by omega
  rw [show o + j = o + j / 3 * 3 + j % 3 by omega]
  rcases h5 with q | q | q <;> rw [q] at hg ⊢ <;> simp only [Nd.cells, List.getElem?_cons_zero, List.getElem?_cons_succ, Option.some.injEq] at hg <;> subst hg
  · exact h0
  · exact h1
  · exact h2
theorem SlWNd.of_owns {w : World} {base : Nat} {e : TypeId} {v : Value} {n : Nat} {l : List Nd} (h : w.ownsRow base e 3 v n (flatNd l)) : SlWNd base w.heap.size w l v := by
  obtain ⟨hl, h | ⟨g, cap, cur, rfl, hb, hg, hn, hm, hs, ht⟩⟩ := h
  · obtain ⟨rfl, rfl⟩ := h
    rw [flatNd_length] at hl
    exact .empty none 0 (List.length_eq_zero_iff.1 (by omega))
  · rw [flatNd_length] at hl
    obtain rfl : n = l.length := by omega
    have hlt : g < w.heap.size := (Array.getElem?_eq_some_iff.1 hg).1
    have hcell : ∀ j, j < l.length * 3 → w.cell? ⟨g, j, none⟩ = (flatNd l)[j]? := by
      intro j hj
      rw [← ht, List.getElem?_take_of_lt hj]
      have hjs : j < cur.toList.length := by rw [Array.length_toList, hs]; exact Nat.lt_of_lt_of_le hj (Nat.mul_le_mul_right 3 hn)
      rw [List.getElem?_eq_getElem hjs]
      exact (cell_of_row w g j cur e _ hg).trans (by simp)
    refine .mk g 0 cap (fun i hi => ?_) hb hlt hlt (fun j => frozen_of_row w _ j _ _ hg) hn
    have hc : ∀ j, j < 3 → w.cell? ⟨g, 0 + i * 3 + j, none⟩ = l[i].cells[j]? := fun j hj => by rw [Nat.zero_add, hcell _ (by omega), flatNd_get l i j hi hj]
    exact ⟨hc 0 (by omega), hc 1 (by omega), hc 2 (by omega)⟩
def FilledONd (w : World) (B o n : Nat) (l : List Nd) (k : Nat) : Prop :=
  B < w.heap.size ∧ (∀ i (h : i < l.length), i < k → NdAt w B (o + i * 3) l[i]) ∧ (∀ j, j < n * 3 → ∃ v, w.cell? ⟨B, o + j, none⟩ = some v) ∧ (∀ j, w.frozen? ⟨B, j, none⟩ = false)
theorem FilledONd.start {w : World} {B o : Nat} {l0 l : List Nd} (h : NdsAt w B o l0) (hb : B < w.heap.size) (hf : ∀ j, w.frozen? ⟨B, j, none⟩ = false) : FilledONd w B o l0.length l 0 := by
  refine ⟨hb, fun i _ hi => absurd hi (by omega), fun j hj => ?_, hf⟩
  obtain ⟨h0, h1, h2⟩ := h (j / 3) (by omega)
  have : j % 3 = 0 ∨ j % 3 = 1 ∨ j % 3 = 2 := by omega
  have hj5 : j = j / 3 * 3 + j % 3 := by omega
  rcases this with e | e | e <;> rw [e] at hj5 <;> rw [hj5]
  · exact ⟨_, h0⟩
  · exact ⟨_, by rw [← Nat.add_assoc]; exact h1⟩
  · exact ⟨_, by rw [← Nat.add_assoc]; exact h2⟩
theorem FilledONd.store {w : World} {B o n k : Nat} {l : List Nd} {p : Nd} (h : FilledONd w B o n l k) (hk : k < l.length) (hp : l[k] = p) (hkn : k < n) : FilledONd (World.setNd w B (o + k * 3) p) B o n l (k + 1) := by
  obtain ⟨h1, h2, h3, h4⟩ := h
  refine ⟨by simpa [World.setNd, World.size_setCell] using h1, fun i hi hik => ?_, fun j hj => ?_, fun j => ?_⟩
  · by_cases e : i = k
    · subst e
      rw [hp]
      exact setNd_at (fun j hj => by rw [Nat.add_assoc]; exact h3 _ (by omega))
    · obtain ⟨a0, a1, a2⟩ := h2 i hi (by omega)
      exact ⟨by rw [setNd_other (by omega)]; exact a0, by rw [setNd_other (by omega)]; exact a1, by rw [setNd_other (by omega)]; exact a2⟩
  · obtain ⟨v, hv⟩ := h3 j hj
    unfold World.setNd
    obtain ⟨v1, g1⟩ := cell_set (j := o + k * 3) (v := .int .i8 p.kind) hv
    obtain ⟨v2, g2⟩ := cell_set (j := o + k * 3 + 1) (v := .int .i16 p.a) g1
    exact cell_set (j := o + k * 3 + 2) (v := .int .i16 p.b) g2
  · unfold World.setNd
    simp only [World.frozen?_setCell]
    exact h4 j

def markNd (k : Int) : Nd := ⟨IntKind.i8.wrap (k), IntKind.i16.wrap (k + 1), IntKind.i16.wrap (k + 1 + 1)⟩
def marksNd (k : Int) (n : Nat) : List Nd := (List.range n).map fun i : Nat => markNd (k + 3 * (i : Int))
theorem marksNd_length (k : Int) (n : Nat) : (marksNd k n).length = n := by simp [marksNd]
theorem marksNd_get (k : Int) (n i : Nat) (h : i < (marksNd k n).length) : (marksNd k n)[i] = markNd (k + 3 * i) := by simp [marksNd]

set_option maxRecDepth 100000 in
set_option maxHeartbeats 4000000 in
theorem markNodeS_mk (b o n cap : Nat) (k : Int) (l : List Nd) (w : World) (hn : l.length = n) (hc : NdsAt w b o l) (hb : b < w.heap.size) (hf : ∀ j, w.frozen? ⟨b, j, none⟩ = false) (hcap : n ≤ cap) (hk0 : 0 ≤ k) (hk1 : k ≤ 100000000) (hmax : n ≤ 1048576) :
    Calls Tryd.prog 77 #[.slice (some ⟨b, o, none⟩) n cap, .int .i64 k] w fun e w' => e = .returned (.int .i64 (k + 3 * n)) ∧ FilledONd w' b o n (marksNd k n) n ∧ KeptOut b (b + 1) w w' := by
  have hst := FilledONd.start (l := marksNd k n) hc hb hf
  rw [hn] at hst
  have Hst := Lib.hid hst
  clear hst hc hf hn
  go_enter Tryd.func77, Tryd.ntmps77
  go_wp2
  go_loopw [1, 5] (fun kk i wr => ∃ j : Nat, j ≤ n ∧ i = .int .i64 j ∧ kk = .int .i64 (k + 3 * j) ∧ Hid (FilledONd wr b o n (marksNd k n) j) ∧ KeptOut b (b + 1) w wr) (fun _ i _ => n - (intOf i).toNat)
  case atStart => exact ⟨0, by omega, rfl, by simp, Hst, KeptOut.of_below (Below.refl _ _)⟩
  case round =>
    obtain ⟨j, hj, rfl, rfl, hf, hkp⟩ := hrel
    by_cases hlt : j < n
    · have hjl : j < (marksNd k n).length := by rw [marksNd_length]; exact hlt
      have HF := Lib.hid (hf.out.store hjl (marksNd_get k n j hjl) hlt)
      have hbw := hf.out.1
      obtain ⟨v0, d0⟩ := hf.out.2.2.1 (j * 3) (by omega)
      obtain ⟨v1, d1⟩ := hf.out.2.2.1 (j * 3 + 1) (by omega)
      obtain ⟨v2, d2⟩ := hf.out.2.2.1 (j * 3 + 2) (by omega)
      rw [← Nat.add_assoc] at d1 d2
      have f0 := hf.out.2.2.2 (o + j * 3)
      have f1 := hf.out.2.2.2 (o + j * 3 + 1)
      have f2 := hf.out.2.2.2 (o + j * 3 + 2)
      clear hf Hst
      go_wp2
      exact ⟨⟨j + 1, by omega, by go_num, by congr 1; push_cast; omega, HF, KeptOut.set (KeptOut.set (KeptOut.set (hkp) ⟨b, o + j * 3, none⟩ (Nat.le_refl _) (Nat.lt_succ_self _) _) ⟨b, o + j * 3 + 1, none⟩ (Nat.le_refl _) (Nat.lt_succ_self _) _) ⟨b, o + j * 3 + 1 + 1, none⟩ (Nat.le_refl _) (Nat.lt_succ_self _) _⟩, by simp [intOf]; omega⟩
    · obtain rfl : j = n := by omega
      clear Hst
      go_wp2
      go_ret
      exact ⟨rfl, hf.out, hkp⟩
set_option maxHeartbeats 1000000 in
theorem markNodeS_none (a : Option Addr) (cap : Nat) (k : Int) (w : World) (hk0 : 0 ≤ k) (hk1 : k ≤ 100000000) :
    Calls Tryd.prog 77 #[.slice a 0 cap, .int .i64 k] w fun e w' => e = .returned (.int .i64 k) ∧ Below w.heap.size w w' := by
  go_enter Tryd.func77, Tryd.ntmps77
  go_wp2
  refine wp_loop_rounds 1 ?_
  rw [rounds_succ]
  go_wp2
  go_ret
  exact ⟨rfl, Below.refl _ _⟩
theorem markNodeS_any (lo hi : Nat) (v : Value) (l : List Nd) (k : Int) (w : World) (h : SlWNd lo hi w l v) (hk0 : 0 ≤ k) (hk1 : k ≤ 100000000) (hmax : l.length ≤ 1048576) :
    Calls Tryd.prog 77 #[v, .int .i64 k] w fun e w' => e = .returned (.int .i64 (k + 3 * l.length)) ∧ SlWNd lo hi w' (marksNd k l.length) v ∧ KeptOut lo hi w w' := by
  cases h with
  | empty a cap h =>
    subst h
    exact (markNodeS_none a cap k w hk0 hk1).mono fun e w' ⟨h1, h2⟩ => ⟨by rw [h1]; simp, .empty a cap (by simp [marksNd]), KeptOut.of_below h2⟩
  | mk b o cap hc h1 h2 hb hf hl =>
    refine (markNodeS_mk b o _ cap k l w rfl hc hb hf hl hk0 hk1 hmax).mono fun e w' ⟨e1, hF, hK⟩ => ⟨e1, ?_, hK.widen h1 (by omega)⟩
    obtain ⟨f1, f2, f3, f4⟩ := hF
    have := SlWNd.mk (lo := lo) (hi := hi) (w := w') (l := marksNd k l.length) b o cap (fun i hi => f2 i hi (by rw [marksNd_length] at hi; exact hi)) h1 h2 f1 f4 (by rw [marksNd_length]; exact hl)
    rwa [marksNd_length] at this
set_option maxRecDepth 100000 in
set_option maxHeartbeats 4000000 in
theorem heldNodeS_mk (b o n cap : Nat) (k : Int) (w : World) (hc : NdsAt w b o (marksNd k n)) (hb : b < w.heap.size) (hcap : n ≤ cap) (hk0 : 0 ≤ k) (hk1 : k ≤ 100000000) (hmax : n ≤ 1048576) :
    Calls Tryd.prog 79 #[.slice (some ⟨b, o, none⟩) n cap, .int .i64 k] w fun e w' => e = .returned (.int .i64 (k + 3 * n)) ∧ Below w.heap.size w w' := by
  go_enter Tryd.func79, Tryd.ntmps79
  go_wp2
  go_loopw [1, 5] (fun kk i wr => ∃ j : Nat, j ≤ n ∧ i = .int .i64 j ∧ kk = .int .i64 (k + 3 * j) ∧ Below w.heap.size w wr) (fun _ i _ => n - (intOf i).toNat)
  case atStart => exact ⟨0, by omega, rfl, by simp, Below.refl _ _⟩
  case round =>
    obtain ⟨j, hj, rfl, rfl, hbr⟩ := hrel
    by_cases hlt : j < n
    · have hjl : j < (marksNd k n).length := by rw [marksNd_length]; exact hlt
      have hpa := (hc.below hbr hb) j hjl
      rw [marksNd_get k n j hjl] at hpa
      obtain ⟨d0, d1, d2⟩ := hpa
      simp only [markNd] at d0 d1 d2
      clear hc
      go_wp2
      exact ⟨⟨j + 1, by omega, by go_num, by congr 1; push_cast; omega, hbr⟩, by simp [intOf]; omega⟩
    · obtain rfl : j = n := by omega
      clear hc
      go_wp2
      go_ret
      exact ⟨rfl, hbr⟩
set_option maxHeartbeats 1000000 in
theorem heldNodeS_none (a : Option Addr) (cap : Nat) (k : Int) (w : World) (hk0 : 0 ≤ k) (hk1 : k ≤ 100000000) :
    Calls Tryd.prog 79 #[.slice a 0 cap, .int .i64 k] w fun e w' => e = .returned (.int .i64 k) ∧ Below w.heap.size w w' := by
  go_enter Tryd.func79, Tryd.ntmps79
  go_wp2
  refine wp_loop_rounds 1 ?_
  rw [rounds_succ]
  go_wp2
  go_ret
  exact ⟨rfl, Below.refl _ _⟩
theorem heldNodeS_any (lo hi n : Nat) (v : Value) (k : Int) (w : World) (h : SlWNd lo hi w (marksNd k n) v) (hk0 : 0 ≤ k) (hk1 : k ≤ 100000000) (hmax : n ≤ 1048576) :
    Calls Tryd.prog 79 #[v, .int .i64 k] w fun e w' => e = .returned (.int .i64 (k + 3 * n)) ∧ Below w.heap.size w w' := by
  generalize hm : marksNd k n = l at h
  have hl : l.length = n := by rw [← hm, marksNd_length]
  cases h with
  | empty a cap h =>
    subst h
    obtain rfl : n = 0 := by simpa using hl.symm
    exact (heldNodeS_none a cap k w hk0 hk1).mono fun e w' ⟨h1, h2⟩ => ⟨by rw [h1]; simp, h2⟩
  | mk b o cap hc h1 h2 hb hf hcap =>
    rw [hl] at hcap ⊢
    exact heldNodeS_mk b o n cap k w (by rw [hm]; exact hc) hb hcap hk0 hk1 hmax
end Go.Proofs.YtobhppkcgioheaaDoor

/- Slices of whole numbers: cells, slices in a window of blocks; the laws' own equality, marking, copies. -/
namespace Go.Proofs.YtobhppkcgioheaaDoor
open Go.ChangeShapes Go.WideShapes Go.ChangeAt Go.RowKit Go.Joins Go.Deep
set_option linter.unusedVariables false

def ShsAt (w : World) (b o : Nat) (l : List Int) : Prop := ∀ i (h : i < l.length), w.cell? ⟨b, o + i, none⟩ = some (.int .i16 l[i])
def ShsWf (l : List Int) : Prop := ∀ p ∈ l, (Lit.int .i16 p).wf = true
theorem ShsAt.below {W w' : World} {b o : Nat} {l : List Int} (h : ShsAt W b o l) (hb : Below W.heap.size W w') (hl : b < W.heap.size) : ShsAt w' b o l :=
  fun i hi => (hb.cell (p := ⟨b, o + i, none⟩) hl).trans (h i hi)
inductive SlSh (w : World) (l : List Int) : Value → Prop where
  | empty (a : Option Addr) (cap : Nat) (h : l = []) : SlSh w l (.slice a 0 cap)
  | mk (b o cap : Nat) (hc : ShsAt w b o l) (hb : b < w.heap.size) (hl : l.length ≤ cap) : SlSh w l (.slice (some ⟨b, o, none⟩) l.length cap)
theorem SlSh.below {w w' : World} {l : List Int} {s : Value} (h : SlSh w l s) (hb : Below w.heap.size w w') : SlSh w' l s := by
  cases h with
  | empty a cap h => exact .empty a cap h
  | mk b o cap hc hbl hl => exact .mk b o cap (hc.below hb hbl) (Nat.lt_of_lt_of_le hbl hb.size) hl
theorem ShsAt.out {lo hi : Nat} {w w' : World} {b o : Nat} {l : List Int} (h : ShsAt w b o l) (g : KeptOut lo hi w w') (hb : b < w.heap.size) (ho : b < lo ∨ hi ≤ b) : ShsAt w' b o l :=
  fun i hi' => (g.cell hb ho).trans (h i hi')
inductive SlWSh (lo hi : Nat) (w : World) (l : List Int) : Value → Prop where
  | empty (a : Option Addr) (cap : Nat) (h : l = []) : SlWSh lo hi w l (.slice a 0 cap)
  | mk (b o cap : Nat) (hc : ShsAt w b o l) (h1 : lo ≤ b) (h2 : b < hi) (hb : b < w.heap.size) (hf : ∀ j, w.frozen? ⟨b, j, none⟩ = false) (hl : l.length ≤ cap) : SlWSh lo hi w l (.slice (some ⟨b, o, none⟩) l.length cap)
theorem SlWSh.sl {lo hi : Nat} {w : World} {l : List Int} {v : Value} (h : SlWSh lo hi w l v) : SlSh w l v := by
  cases h with
  | empty a cap h => exact .empty a cap h
  | mk b o cap hc _ _ hb _ hl => exact .mk b o cap hc hb hl
theorem SlWSh.below {lo hi : Nat} {w w' : World} {l : List Int} {v : Value} (h : SlWSh lo hi w l v) (g : Below w.heap.size w w') : SlWSh lo hi w' l v := by
  cases h with
  | empty a cap h => exact .empty a cap h
  | mk b o cap hc h1 h2 hb hf hl => exact .mk b o cap (hc.below g hb) h1 h2 (Nat.lt_of_lt_of_le hb g.size) (fun j => (g.frozen (p := ⟨b, j, none⟩) hb).trans (hf j)) hl
theorem SlWSh.out {lo hi lo2 hi2 : Nat} {w w' : World} {l : List Int} {v : Value} (h : SlWSh lo hi w l v) (g : KeptOut lo2 hi2 w w') (ho : hi ≤ lo2 ∨ hi2 ≤ lo) : SlWSh lo hi w' l v := by
  cases h with
  | empty a cap h => exact .empty a cap h
  | mk b o cap hc h1 h2 hb hf hl => exact .mk b o cap (hc.out g hb (by omega)) h1 h2 (Nat.lt_of_lt_of_le hb g.size) (fun j => (g.frozen hb (by omega)).trans (hf j)) hl
theorem SlWSh.mono {lo hi lo2 hi2 : Nat} {w : World} {l : List Int} {v : Value} (h : SlWSh lo hi w l v) (h1 : lo2 ≤ lo) (h2 : hi ≤ hi2) : SlWSh lo2 hi2 w l v := by
  cases h with
  | empty a cap h => exact .empty a cap h
  | mk b o cap hc h1 h2 hb hf hl => exact .mk b o cap hc (by omega) (by omega) hb hf hl
theorem SlWSh.form {lo hi : Nat} {w : World} {l : List Int} {v : Value} (h : SlWSh lo hi w l v) : ∃ a c, v = .slice a l.length c := by
  cases h with
  | empty a cap h => exact ⟨a, cap, by rw [h]; rfl⟩
  | mk b o cap _ _ _ _ _ _ => exact ⟨_, cap, rfl⟩
inductive SlOSh (B : Nat) (w : World) (l : List Int) : Value → Prop where
  | empty (a : Option Addr) (cap : Nat) (h : l = []) : SlOSh B w l (.slice a 0 cap)
  | mk (b o cap : Nat) (hc : ShsAt w b o l) (hB : b < B) (hb : b < w.heap.size) (hl : l.length ≤ cap) : SlOSh B w l (.slice (some ⟨b, o, none⟩) l.length cap)
theorem SlOSh.sl {B : Nat} {w : World} {l : List Int} {v : Value} (h : SlOSh B w l v) : SlSh w l v := by
  cases h with
  | empty a cap h => exact .empty a cap h
  | mk b o cap hc _ hb hl => exact .mk b o cap hc hb hl
theorem SlOSh.start {w : World} {l : List Int} {v : Value} (h : SlSh w l v) : SlOSh w.heap.size w l v := by
  cases h with
  | empty a cap h => exact .empty a cap h
  | mk b o cap hc hb hl => exact .mk b o cap hc hb hb hl
theorem SlOSh.below {B : Nat} {w w' : World} {l : List Int} {v : Value} (h : SlOSh B w l v) (g : Below w.heap.size w w') : SlOSh B w' l v := by
  cases h with
  | empty a cap h => exact .empty a cap h
  | mk b o cap hc hB hb hl => exact .mk b o cap (hc.below g hb) hB (Nat.lt_of_lt_of_le hb g.size) hl
theorem SlOSh.out {B lo hi : Nat} {w w' : World} {l : List Int} {v : Value} (h : SlOSh B w l v) (g : KeptOut lo hi w w') (ho : B ≤ lo) : SlOSh B w' l v := by
  cases h with
  | empty a cap h => exact .empty a cap h
  | mk b o cap hc hB hb hl => exact .mk b o cap (hc.out g hb (Or.inl (by omega))) hB (Nat.lt_of_lt_of_le hb g.size) hl

def flatSh (l : List Int) : List Value := l.map fun x => .int .i16 x
theorem flatSh_length (l : List Int) : (flatSh l).length = l.length := by simp [flatSh]
theorem flatSh_one (l : List Int) : ∀ u ∈ flatSh l, u.oneCell' = true := by
  intro u hu
  obtain ⟨p, _, rfl⟩ := List.mem_map.1 hu
  rfl
theorem flatSh_end (l : List Int) (p : Int) : flatSh (l ++ [p]) = flatSh l ++ [.int .i16 p] := by simp [flatSh]
theorem SlWSh.of_owns {w : World} {base : Nat} {e : TypeId} {v : Value} {n : Nat} {l : List Int} (h : w.ownsRow base e 1 v n (flatSh l)) : SlWSh base w.heap.size w l v := by
  obtain ⟨hl, h | ⟨g, cap, cur, rfl, hb, hg, hn, hm, hs, ht⟩⟩ := h
  · obtain ⟨rfl, rfl⟩ := h
    rw [flatSh_length] at hl
    exact .empty none 0 (List.length_eq_zero_iff.1 (by omega))
  · rw [flatSh_length] at hl
    obtain rfl : n = l.length := by omega
    have hlt : g < w.heap.size := (Array.getElem?_eq_some_iff.1 hg).1
    refine .mk g 0 cap (fun i hi => ?_) hb hlt hlt (fun j => frozen_of_row w _ j _ _ hg) hn
    have hjs : i < cur.toList.length := by rw [Array.length_toList, hs]; omega
    have h2 : w.cell? ⟨g, i, none⟩ = (flatSh l)[i]? := by
      rw [← ht, List.getElem?_take_of_lt (by omega), List.getElem?_eq_getElem hjs]
      exact (cell_of_row w g i cur e _ hg).trans (by simp)
    rw [Nat.zero_add, h2]
    simp [flatSh, List.getElem?_eq_getElem hi]
/-- block B holds n numbers from o on, whose first k are those of 'l' -/
def FilledSh (w : World) (B o n : Nat) (l : List Int) (k : Nat) : Prop :=
  B < w.heap.size ∧ (∀ i (h : i < l.length), i < k → w.cell? ⟨B, o + i, none⟩ = some (.int .i16 l[i])) ∧ (∀ j, j < n → ∃ v, w.cell? ⟨B, o + j, none⟩ = some v) ∧ (∀ j, w.frozen? ⟨B, j, none⟩ = false)
theorem FilledSh.start {w : World} {B o : Nat} {l0 l : List Int} (h : ShsAt w B o l0) (hb : B < w.heap.size) (hf : ∀ j, w.frozen? ⟨B, j, none⟩ = false) : FilledSh w B o l0.length l 0 :=
  ⟨hb, fun i _ hi => absurd hi (by omega), fun j hj => ⟨_, h j hj⟩, hf⟩
theorem FilledSh.made {w w' : World} {n B : Nat} {l : List Int} {e : TypeId} {v : Value} {xs : List Value} (h : w.ownsRow B e 1 (.slice (some ⟨B, 0, none⟩) n n) n xs) : FilledSh w B 0 n l 0 := by
  refine ⟨(h.lt B rfl).2, fun i _ hi => absurd hi (by omega), fun j hj => ?_, fun j => h.frozenAt j⟩
  have hl : xs.length = n * 1 := h.1
  exact ⟨xs[j]'(by omega), by rw [Nat.zero_add, h.cellAt j (by omega)]; exact List.getElem?_eq_getElem (by omega)⟩
theorem FilledSh.below {w w' : World} {n B o k : Nat} {l : List Int} (h : FilledSh w B o n l k) (hb : Below w.heap.size w w') : FilledSh w' B o n l k := by
  obtain ⟨h1, h2, h3, h4⟩ := h
  refine ⟨Nat.lt_of_lt_of_le h1 hb.size, fun i hi hk => ?_, fun j hj => ?_, fun j => ?_⟩
  · rw [hb.cell (p := ⟨B, o + i, none⟩) h1]; exact h2 i hi hk
  · rw [hb.cell (p := ⟨B, o + j, none⟩) h1]; exact h3 j hj
  · rw [hb.frozen (p := ⟨B, j, none⟩) h1]; exact h4 j
theorem FilledSh.store {w : World} {B o n k : Nat} {l : List Int} {p : Int} (h : FilledSh w B o n l k) (hk : k < l.length) (hp : l[k] = p) (hkn : k < n) : FilledSh (w.setCell ⟨B, o + k, none⟩ (.int .i16 p)) B o n l (k + 1) := by
  obtain ⟨h1, h2, h3, h4⟩ := h
  have ne : ∀ i : Nat, i ≠ k → (⟨B, o + k, none⟩ : Addr) ≠ ⟨B, o + i, none⟩ := by intro i hi e; injection e with _ h _; omega
  refine ⟨by simpa [World.size_setCell] using h1, fun i hi hik => ?_, fun j hj => ?_, fun j => by rw [World.frozen?_setCell]; exact h4 j⟩
  · by_cases e : i = k
    · subst e
      obtain ⟨v, hv⟩ := h3 i hkn
      rw [hp, World.cell?_setCell_same _ _ _ hv]
    · rw [World.cell?_setCell_other _ _ _ _ (ne i e)]; exact h2 i hi (by omega)
  · by_cases e : j = k
    · subst e
      obtain ⟨v, hv⟩ := h3 j hj
      exact ⟨_, World.cell?_setCell_same _ _ _ hv⟩
    · rw [World.cell?_setCell_other _ _ _ _ (ne j e)]; exact h3 j hj
def marksSh (k : Int) (n : Nat) : List Int := (List.range n).map fun i : Nat => IntKind.i16.wrap (k + (i : Int))
theorem marksSh_length (k : Int) (n : Nat) : (marksSh k n).length = n := by simp [marksSh]
theorem marksSh_get (k : Int) (n i : Nat) (h : i < (marksSh k n).length) : (marksSh k n)[i] = IntKind.i16.wrap (k + (i : Int)) := by simp [marksSh]
set_option maxRecDepth 100000 in
set_option maxHeartbeats 2000000 in
theorem eqInt16S_mk (b1 o1 b2 o2 n c1 c2 : Nat) (l : List Int) (w : World) (hn : l.length = n) (h1 : ShsAt w b1 o1 l) (h2 : ShsAt w b2 o2 l) (hb1 : b1 < w.heap.size) (hb2 : b2 < w.heap.size) (hc1 : n ≤ c1) (hc2 : n ≤ c2) (hmax : n ≤ 1048576) :
    Calls Tryd.prog 76 #[.slice (some ⟨b1, o1, none⟩) n c1, .slice (some ⟨b2, o2, none⟩) n c2] w fun e w' => e = .returned (.bool true) ∧ Below w.heap.size w w' := by
  have Hn := Lib.hid hn
  clear hn
  go_enter Tryd.func76, Tryd.ntmps76
  go_wp2
  go_loopw [5] (fun i wr => ∃ k : Nat, k ≤ n ∧ i = .int .i64 k ∧ Below w.heap.size w wr) (fun i _ => n - (intOf i).toNat)
  case atStart => exact ⟨0, by omega, rfl, Below.refl _ _⟩
  case round =>
    obtain ⟨k, hk, rfl, hbr⟩ := hrel
    by_cases hlt : k < n
    · have hlk : k < l.length := by rw [Hn.out]; exact hlt
      have hp1 := (h1.below hbr hb1) k hlk
      have hp2 := (h2.below hbr hb2) k hlk
      generalize hpe : l[k] = p at hp1 hp2
      clear h1 h2 hpe
      go_wp2
      go_quiet (fail)
      go_wp2
      exact ⟨⟨k + 1, by omega, by go_num, kDrewN hbr _⟩, by simp [intOf]; omega⟩
    · clear h1 h2
      go_wp2
      go_ret
      exact ⟨rfl, hbr⟩
set_option maxHeartbeats 1000000 in
theorem eqInt16S_empty (a1 a2 : Option Addr) (c1 c2 : Nat) (w : World) :
    Calls Tryd.prog 76 #[.slice a1 0 c1, .slice a2 0 c2] w fun e w' => e = .returned (.bool true) ∧ Below w.heap.size w w' := by
  go_enter Tryd.func76, Tryd.ntmps76
  go_wp2
  refine wp_loop_rounds 1 ?_
  rw [rounds_succ]
  go_wp2
  go_ret
  exact ⟨rfl, Below.refl _ _⟩
theorem eqInt16S_any (v1 v2 : Value) (l : List Int) (w : World) (h1 : SlSh w l v1) (h2 : SlSh w l v2) (h8 : ShsWf l) (hmax : l.length ≤ 1048576) :
    Calls Tryd.prog 76 #[v1, v2] w fun e w' => e = .returned (.bool true) ∧ Below w.heap.size w w' := by
  cases h1 with
  | empty a cap h =>
    subst h
    cases h2 with
    | empty a2 cap2 h => exact eqInt16S_empty a a2 cap cap2 w
    | mk b o cap2 hc hb hl => exact eqInt16S_empty a _ cap cap2 w
  | mk b o cap hc hb hl =>
    cases h2 with
    | empty a2 cap2 h => subst h; exact eqInt16S_empty _ a2 cap cap2 w
    | mk b2 o2 cap2 hc2 hb2 hl2 => exact eqInt16S_mk b o b2 o2 _ cap cap2 l w rfl hc hc2 hb hb2 hl hl2 hmax
set_option maxRecDepth 100000 in
set_option maxHeartbeats 4000000 in
theorem markInt16S_mk (b o n cap : Nat) (k : Int) (l : List Int) (w : World) (hn : l.length = n) (hc : ShsAt w b o l) (hb : b < w.heap.size) (hf : ∀ j, w.frozen? ⟨b, j, none⟩ = false) (hcap : n ≤ cap) (hk0 : 0 ≤ k) (hk1 : k ≤ 100000000) (hmax : n ≤ 1048576) :
    Calls Tryd.prog 78 #[.slice (some ⟨b, o, none⟩) n cap, .int .i64 k] w fun e w' => e = .returned (.int .i64 (k + 1 * n)) ∧ FilledSh w' b o n (marksSh k n) n ∧ KeptOut b (b + 1) w w' := by
  have hst := FilledSh.start (l := marksSh k n) hc hb hf
  rw [hn] at hst
  have Hst := Lib.hid hst
  clear hst hc hf hn
  go_enter Tryd.func78, Tryd.ntmps78
  go_wp2
  go_loopw [1, 5] (fun kk i wr => ∃ j : Nat, j ≤ n ∧ i = .int .i64 j ∧ kk = .int .i64 (k + j) ∧ Hid (FilledSh wr b o n (marksSh k n) j) ∧ KeptOut b (b + 1) w wr) (fun _ i _ => n - (intOf i).toNat)
  case atStart => exact ⟨0, by omega, rfl, by simp, Hst, KeptOut.of_below (Below.refl _ _)⟩
  case round =>
    obtain ⟨j, hj, rfl, rfl, hf, hkp⟩ := hrel
    by_cases hlt : j < n
    · have hjl : j < (marksSh k n).length := by rw [marksSh_length]; exact hlt
      have HF := Lib.hid (hf.out.store hjl (marksSh_get k n j hjl) hlt)
      have hbw := hf.out.1
      obtain ⟨v0, d0⟩ := hf.out.2.2.1 j (by omega)
      have f0 := hf.out.2.2.2 (o + j)
      clear hf Hst
      go_wp2
      exact ⟨⟨j + 1, by omega, by go_num, by congr 1; push_cast; omega, HF, KeptOut.set hkp ⟨b, o + j, none⟩ (Nat.le_refl _) (Nat.lt_succ_self _) _⟩, by simp [intOf]; omega⟩
    · obtain rfl : j = n := by omega
      clear Hst
      go_wp2
      go_ret
      rw [Int.one_mul]
      exact ⟨rfl, hf.out, hkp⟩
set_option maxHeartbeats 1000000 in
theorem markInt16S_none (a : Option Addr) (cap : Nat) (k : Int) (w : World) (hk0 : 0 ≤ k) (hk1 : k ≤ 100000000) :
    Calls Tryd.prog 78 #[.slice a 0 cap, .int .i64 k] w fun e w' => e = .returned (.int .i64 k) ∧ Below w.heap.size w w' := by
  go_enter Tryd.func78, Tryd.ntmps78
  go_wp2
  refine wp_loop_rounds 1 ?_
  rw [rounds_succ]
  go_wp2
  go_ret
  exact ⟨rfl, Below.refl _ _⟩
theorem markInt16S_any (lo hi : Nat) (v : Value) (l : List Int) (k : Int) (w : World) (h : SlWSh lo hi w l v) (hk0 : 0 ≤ k) (hk1 : k ≤ 100000000) (hmax : l.length ≤ 1048576) :
    Calls Tryd.prog 78 #[v, .int .i64 k] w fun e w' => e = .returned (.int .i64 (k + 1 * l.length)) ∧ SlWSh lo hi w' (marksSh k l.length) v ∧ KeptOut lo hi w w' := by
  cases h with
  | empty a cap h =>
    subst h
    exact (markInt16S_none a cap k w hk0 hk1).mono fun e w' ⟨h1, h2⟩ => ⟨by rw [h1]; simp, .empty a cap (by simp [marksSh]), KeptOut.of_below h2⟩
  | mk b o cap hc h1 h2 hb hf hl =>
    refine (markInt16S_mk b o _ cap k l w rfl hc hb hf hl hk0 hk1 hmax).mono fun e w' ⟨e1, hF, hK⟩ => ⟨e1, ?_, hK.widen h1 (by omega)⟩
    obtain ⟨f1, f2, f3, f4⟩ := hF
    have := SlWSh.mk (lo := lo) (hi := hi) (w := w') (l := marksSh k l.length) b o cap (fun i hi => f2 i hi (by rw [marksSh_length] at hi; exact hi)) h1 h2 f1 f4 (by rw [marksSh_length]; exact hl)
    rwa [marksSh_length] at this
set_option maxRecDepth 100000 in
set_option maxHeartbeats 4000000 in
theorem heldInt16S_mk (b o n cap : Nat) (k : Int) (w : World) (hc : ShsAt w b o (marksSh k n)) (hb : b < w.heap.size) (hcap : n ≤ cap) (hk0 : 0 ≤ k) (hk1 : k ≤ 100000000) (hmax : n ≤ 1048576) :
    Calls Tryd.prog 80 #[.slice (some ⟨b, o, none⟩) n cap, .int .i64 k] w fun e w' => e = .returned (.int .i64 (k + 1 * n)) ∧ Below w.heap.size w w' := by
  go_enter Tryd.func80, Tryd.ntmps80
  go_wp2
  go_loopw [1, 5] (fun kk i wr => ∃ j : Nat, j ≤ n ∧ i = .int .i64 j ∧ kk = .int .i64 (k + j) ∧ Below w.heap.size w wr) (fun _ i _ => n - (intOf i).toNat)
  case atStart => exact ⟨0, by omega, rfl, by simp, Below.refl _ _⟩
  case round =>
    obtain ⟨j, hj, rfl, rfl, hbr⟩ := hrel
    by_cases hlt : j < n
    · have hjl : j < (marksSh k n).length := by rw [marksSh_length]; exact hlt
      have d0 := (hc.below hbr hb) j hjl
      rw [marksSh_get k n j hjl] at d0
      clear hc
      go_wp2
      exact ⟨⟨j + 1, by omega, by go_num, by congr 1; push_cast; omega, hbr⟩, by simp [intOf]; omega⟩
    · obtain rfl : j = n := by omega
      clear hc
      go_wp2
      go_ret
      rw [Int.one_mul]
      exact ⟨rfl, hbr⟩
set_option maxHeartbeats 1000000 in
theorem heldInt16S_none (a : Option Addr) (cap : Nat) (k : Int) (w : World) (hk0 : 0 ≤ k) (hk1 : k ≤ 100000000) :
    Calls Tryd.prog 80 #[.slice a 0 cap, .int .i64 k] w fun e w' => e = .returned (.int .i64 k) ∧ Below w.heap.size w w' := by
  go_enter Tryd.func80, Tryd.ntmps80
  go_wp2
  refine wp_loop_rounds 1 ?_
  rw [rounds_succ]
  go_wp2
  go_ret
  exact ⟨rfl, Below.refl _ _⟩
theorem heldInt16S_any (lo hi n : Nat) (v : Value) (k : Int) (w : World) (h : SlWSh lo hi w (marksSh k n) v) (hk0 : 0 ≤ k) (hk1 : k ≤ 100000000) (hmax : n ≤ 1048576) :
    Calls Tryd.prog 80 #[v, .int .i64 k] w fun e w' => e = .returned (.int .i64 (k + 1 * n)) ∧ Below w.heap.size w w' := by
  generalize hm : marksSh k n = l at h
  have hl : l.length = n := by rw [← hm, marksSh_length]
  cases h with
  | empty a cap h =>
    subst h
    obtain rfl : n = 0 := by simpa using hl.symm
    exact (heldInt16S_none a cap k w hk0 hk1).mono fun e w' ⟨h1, h2⟩ => ⟨by rw [h1]; simp, h2⟩
  | mk b o cap hc h1 h2 hb hf hcap =>
    rw [hl] at hcap ⊢
    exact heldInt16S_mk b o n cap k w (by rw [hm]; exact hc) hb hcap hk0 hk1 hmax
theorem info_i16n : (Tryd.prog.info? 99).map (fun i => (i.zero, i.size, i.bytes)) = some (some (.int .i16 0), 1, 2) := by kernel_rfl
set_option maxRecDepth 100000 in
set_option maxHeartbeats 2000000 in
theorem toInt16S_some (b o n cap : Nat) (l : List Int) (w : World) (hc : ShsAt w b o l) (hb : b < w.heap.size) (hn : l.length = n) (hcap : n ≤ cap) (hmax : n ≤ 1048576) :
    Calls Tryd.prog 85 #[.slice (some ⟨b, o, none⟩) n cap] w fun e w' => e = .returned (.slice (some ⟨w.heap.size, 0, none⟩) n n) ∧ ShsAt w' w.heap.size 0 l ∧ w.heap.size < w'.heap.size ∧ (∀ j, w'.frozen? ⟨w.heap.size, j, none⟩ = false) ∧ Below w.heap.size w w' := by
  have Hn := Lib.hid hn
  clear hn
  obtain ⟨i0, hi, hz0, hz1, hz2⟩ := info_parts info_i16n
  go_enter Tryd.func85, Tryd.ntmps85
  go_wp2_with (refine wpList_make_full _ rfl _ _ 54 rfl w.heap.size 99 i0 _ 1 Tryd.underlying54 hi hz0 hz1 _ _ _ _ n rfl rfl rfl rfl ?c1 ?c2 ?c3 ?_)
  case c1 => rw [hz2]; omega
  case c2 => unfold maxLen; omega
  case c3 => exact Nat.le_refl _
  intro w1 hown hgr
  have hF : FilledSh w1 w.heap.size 0 n l 0 := FilledSh.made (w' := w) (v := .int .i16 0) hown
  have hB : Below w.heap.size w w1 := (Below.refl _ _).grown hgr (Nat.le_refl _) (by intro k hk; cases hk)
  clear hown hgr hz0 hz1 hz2 hi i0
  go_wp2
  go_loopw [4] (fun i wr => ∃ k : Nat, k ≤ n ∧ i = .int .i64 k ∧ FilledSh wr w.heap.size 0 n l k ∧ Below w.heap.size w wr) (fun i _ => n - (intOf i).toNat)
  case atStart => exact ⟨0, by omega, rfl, hF, hB⟩
  case round =>
    obtain ⟨k, hk, rfl, hf, hbr⟩ := hrel
    by_cases hlt : k < n
    · have hlk : k < l.length := by rw [Hn.out]; exact hlt
      have hpc := (hc.below hbr hb) k hlk
      generalize hpe : l[k] = p at hpc
      have Hp := Lib.hid hpe
      obtain ⟨hs2, hd2, hx2, hz2⟩ := id hf
      obtain ⟨v0, d0⟩ := hx2 k (by omega)
      have f0 := hz2 k
      have HF := Lib.hid (hf.store hlk Hp.out hlt)
      simp only [Nat.zero_add] at d0 HF
      have HB : Hid (Below w.heap.size w (wr.setCell ⟨w.heap.size, k, none⟩ (.int .i16 p))) := Lib.hid (kSet hbr (Nat.le_refl _) _)
      clear hd2 hx2 hz2 hf hbr hpe hc hF hB
      go_wp2
      exact ⟨⟨k + 1, by omega, by go_num, HF.out, HB.out⟩, by simp [intOf]; omega⟩
    · have e : k = n := by omega
      have H1 : Hid (ShsAt wr w.heap.size 0 l) := Lib.hid (fun i hi => hf.2.1 i hi (by rw [e, ← Hn.out]; exact hi))
      have H2 := hf.1
      have H3 : Hid (∀ j, wr.frozen? ⟨w.heap.size, j, none⟩ = false) := Lib.hid hf.2.2.2
      clear e hf hF hB hc
      go_wp2
      go_ret
      exact ⟨rfl, H1.out, H2, H3.out, hbr⟩
set_option maxRecDepth 100000 in
set_option maxHeartbeats 2000000 in
theorem toInt16S_empty (a : Option Addr) (cap : Nat) (w : World) :
    Calls Tryd.prog 85 #[.slice a 0 cap] w fun e w' => e = .returned (.slice (some ⟨w.heap.size, 0, none⟩) 0 0) ∧ w.heap.size < w'.heap.size ∧ (∀ j, w'.frozen? ⟨w.heap.size, j, none⟩ = false) ∧ Below w.heap.size w w' := by
  obtain ⟨i0, hi, hz0, hz1, hz2⟩ := info_parts info_i16n
  go_enter Tryd.func85, Tryd.ntmps85
  go_wp2_with (refine wpList_make_full _ rfl _ _ 54 rfl w.heap.size 99 i0 _ 1 Tryd.underlying54 hi hz0 hz1 _ _ _ _ 0 rfl rfl rfl rfl ?c1 ?c2 ?c3 ?_)
  case c1 => rw [hz2]; omega
  case c2 => unfold maxLen; omega
  case c3 => exact Nat.le_refl _
  intro w1 hown hgr
  have hF : FilledSh w1 w.heap.size 0 0 [] 0 := FilledSh.made (w' := w) (v := .int .i16 0) hown
  have hB : Below w.heap.size w w1 := (Below.refl _ _).grown hgr (Nat.le_refl _) (by intro k hk; cases hk)
  have hs := hF.1
  have H3 : Hid (∀ j, w1.frozen? ⟨w.heap.size, j, none⟩ = false) := Lib.hid hF.2.2.2
  clear hown hgr hz0 hz1 hz2 hi i0 hF
  go_wp2
  refine wp_loop_rounds 1 ?_
  rw [rounds_succ]
  go_wp2
  go_ret
  exact ⟨rfl, hs, H3.out, hB⟩
theorem toInt16S_any (v : Value) (l : List Int) (w : World) (h : SlSh w l v) (hmax : l.length ≤ 1048576) :
    Calls Tryd.prog 85 #[v] w fun e w' => e = .returned (.slice (some ⟨w.heap.size, 0, none⟩) l.length l.length) ∧ ShsAt w' w.heap.size 0 l ∧ w.heap.size < w'.heap.size ∧ (∀ j, w'.frozen? ⟨w.heap.size, j, none⟩ = false) ∧ Below w.heap.size w w' := by
  cases h with
  | empty a cap h => subst h; exact (toInt16S_empty a cap w).mono fun e w' ⟨h1, h2, h3, h4⟩ => ⟨h1, fun i hi => absurd hi (by simp), h2, h3, h4⟩
  | mk b o cap hc hb hl => exact toInt16S_some b o _ cap l w hc hb rfl hl hmax
theorem intsSh_list {cs : List Value} {k0 : IntKind} (h : Ints cs [k0]) : ∃ u0 : Int, cs = [.int k0 u0] ∧ (Lit.int k0 u0).wf = true := by
  match cs, h with
  | [_], ⟨⟨x0, rfl, h0⟩, _⟩ => exact ⟨x0, rfl, h0⟩
theorem Sh_of_cells {w : World} {base b o : Nat} {cs : List Value} (h : w.cells? base ⟨b, o, none⟩ 1 = some cs) (hi : Ints cs [.i16]) : ∃ p : Int, w.cell? ⟨b, o, none⟩ = some (.int .i16 p) ∧ (Lit.int .i16 p).wf = true := by
  obtain ⟨x0, rfl, h0⟩ := intsSh_list hi
  obtain ⟨_, _, hc⟩ := World.cells?_some h
  have e0 := hc 0 (by omega)
  rw [add_none] at e0
  exact ⟨x0, e0, h0⟩
theorem open_Shs {H : Type} {enc : TypeId × Value → H} {P : Program} {w : World} {base : Nat} {spare : Nat → Bool} {held : Bool} {t e : TypeId} {fuel : Nat} {v : Value} {x : DataW H × List MemPlace}
    (ht : P.underlying t = some (.slice e)) (hce : P.cellsOf e = 1) (hfl : flat P 4 e = some [.i16]) (h : DataW.trod enc P w base spare held fuel t [v] = some x) :
    ∃ l : List Int, SlSh w l v ∧ ShsWf l ∧ l.length ≤ maxLen := by
  rcases open_slice ht h with ⟨h0, _⟩ | ⟨a, len, cap, m, n, D, Pl, hcs, hb, hl, hm, hmm, _, hi⟩
  · simp only [List.cons.injEq, and_true] at h0
    subst h0
    exact ⟨[], .empty none 0 rfl, fun _ h => absurd h (by simp), Nat.zero_le _⟩
  · simp only [List.cons.injEq, and_true] at hcs
    subst hcs
    have hml : len ≤ m := by rw [hmm]; split <;> omega
    by_cases h0 : len = 0
    · subst h0
      exact ⟨[], .empty (some a) cap rfl, fun _ h => absurd h (by simp), Nat.zero_le _⟩
    · rw [hce] at hi
      obtain ⟨cs0, hc0, _⟩ := hi 0 (by omega)
      obtain ⟨hs, hbl⟩ := spot_of_cells (by omega) hc0
      obtain ⟨b, o, s⟩ := a
      have hs' : s = none := hs
      have hbl' : b < w.heap.size := hbl
      clear hs hbl hc0
      subst hs'
      have hp : ∀ i, i < len → ∃ p : Int, w.cell? ⟨b, o + i * 1, none⟩ = some (.int .i16 p) ∧ (Lit.int .i16 p).wf = true := by
        intro i hil
        obtain ⟨cs, hc, hx⟩ := hi i (by omega)
        rw [add_none] at hc
        exact Sh_of_cells hc (flat_ints 4 e _ n cs _ hfl hx)
      obtain ⟨F, hF⟩ : ∃ F : Nat → Int, ∀ i, i < len → w.cell? ⟨b, o + i * 1, none⟩ = some (.int .i16 (F i)) ∧ (Lit.int .i16 (F i)).wf = true :=
        ⟨fun i => if h : i < len then Classical.choose (hp i h) else 0, fun i h => by simp only [h, dite_true]; exact Classical.choose_spec (hp i h)⟩
      have hlen : ((List.range len).map F).length = len := by simp
      refine ⟨(List.range len).map F, ?_, ?_, by rw [hlen]; omega⟩
      · have := SlSh.mk (w := w) (l := (List.range len).map F) b o cap (fun i hi => by
          rw [hlen] at hi
          simp only [List.getElem_map, List.getElem_range]
          have := (hF i hi).1; rw [Nat.mul_one] at this; exact this) hbl' (by rw [hlen]; exact hl)
        rwa [hlen] at this
      · intro p hp
        obtain ⟨i, hi, rfl⟩ := List.mem_map.1 hp
        exact (hF i (List.mem_range.1 hi)).2
theorem SlSh.len {w : World} {l : List Int} {a : Option Addr} {n c : Nat} (h : SlSh w l (.slice a n c)) : n = l.length := by
  cases h with
  | empty a cap h => rw [h]; rfl
  | mk b o cap _ _ _ => rfl
theorem Sh_cells : Tryd.prog.cellsOf 99 = 1 := by kernel_rfl
set_option maxRecDepth 100000 in
theorem Sh_flat : flat Tryd.prog 4 99 = some [.i16] := by kernel_rfl
theorem szInt16S_any (v : Value) (l : List Int) (w : World) (h : SlSh w l v) (left : Int) (hl : l.length ≤ 9223372036854775807) (h0 : 0 ≤ left) (h1 : left ≤ 1048576) :
    Calls Tryd.prog 82 #[v, .int .i64 left] w fun e w' => e = .returned (.int .i64 (if left - l.length < 0 then -1 else left - l.length)) ∧ w = w' := by
  have key : ∀ (a : Option Addr) (n cap : Nat), n ≤ 9223372036854775807 → Calls Tryd.prog 82 #[.slice a n cap, .int .i64 left] w fun e w' => e = .returned (.int .i64 (if left - n < 0 then -1 else left - n)) ∧ w = w' := by
    intro a n cap hn
    by_cases hlt : left - n < 0
    · rw [if_pos hlt]
      go_enter Tryd.func82, Tryd.ntmps82
      go_wp2
      go_ret
      exact ⟨rfl, rfl⟩
    · rw [if_neg hlt]
      go_enter Tryd.func82, Tryd.ntmps82
      go_wp2
      go_ret
      exact ⟨rfl, rfl⟩
  cases h with
  | empty a cap h => subst h; exact key a 0 cap (by decide)
  | mk b o cap hc hb hle => exact key _ _ _ hl
end Go.Proofs.YtobhppkcgioheaaDoor

/- Networks: inputs, nodes, outputs: the laws' own functions on them; the reading of an argument; packages. -/
namespace Go.Proofs.YtobhppkcgioheaaDoor
open Go.ChangeShapes Go.WideShapes Go.ChangeAt Go.RowKit Go.Joins Go.Deep
set_option linter.unusedVariables false
set_option linter.unusedSimpArgs false

theorem nBlk_set {w : World} {b i : Nat} {cs : Array Value} {t : TypeId} {fr : Nat × Nat} {v : Value} (h : w.heap[b]? = some (.cells cs t fr)) : (w.setCell ⟨b, i, none⟩ v).heap[b]? = some (.cells (cs.setIfInBounds i v) t fr) := by
  simp [World.setCell, Array.getElem?_modify, h]
theorem nNew (w : World) (o : Obj) : (w.alloc o).heap[w.heap.size]? = some o := by
  show (w.heap.push o)[w.heap.size]? = _
  simp
/-- the cells of a network -/
def NwAt (w : World) (b : Nat) (ni : Int) (v t : Value) : Prop :=
  w.cell? ⟨b, 0, none⟩ = some (.int .i8 ni) ∧ w.cell? ⟨b, 1, none⟩ = some v ∧ w.cell? ⟨b, 2, none⟩ = some t
theorem NwAt.below {W w' : World} {b : Nat} {ni : Int} {v t : Value} (h : NwAt W b ni v t) (hb : Below W.heap.size W w') (hl : b < W.heap.size) : NwAt w' b ni v t :=
  ⟨(hb.cell (p := ⟨b, _, none⟩) hl).trans h.1, (hb.cell (p := ⟨b, _, none⟩) hl).trans h.2.1, (hb.cell (p := ⟨b, _, none⟩) hl).trans h.2.2⟩
theorem NwAt.of {w : World} {b : Nat} {ni : Int} {v u : Value} {t : TypeId} (h : w.heap[b]? = some (.cells #[.int .i8 ni, v, u] t (0, 0))) : NwAt w b ni v u :=
  ⟨cell_of_row _ _ 0 _ _ _ h, cell_of_row _ _ 1 _ _ _ h, cell_of_row _ _ 2 _ _ _ h⟩
theorem NwAt.box (w : World) (ni : Int) (v u : Value) (t : TypeId) : NwAt (w.alloc (.cells #[.int .i8 ni, v, u] t)) w.heap.size ni v u := NwAt.of (nNew _ _)
theorem NwAt.lt {w : World} {b : Nat} {ni : Int} {v t : Value} (h : NwAt w b ni v t) : b < w.heap.size := World.block_lt_of_cell? w _ h.1
theorem slNd_val {w : World} {l : List Nd} {v : Value} (h : SlNd w l v) : ∃ a c, v = .slice a l.length c := by
  cases h with
  | empty a cap h => exact ⟨a, cap, by rw [h]; rfl⟩
  | mk b o cap _ _ _ => exact ⟨_, cap, rfl⟩
theorem slSh_val {w : World} {l : List Int} {v : Value} (h : SlSh w l v) : ∃ a c, v = .slice a l.length c := by
  cases h with
  | empty a cap h => exact ⟨a, cap, by rw [h]; rfl⟩
  | mk b o cap _ _ _ => exact ⟨_, cap, rfl⟩
set_option maxRecDepth 100000 in
set_option maxHeartbeats 2000000 in
theorem szNetwork_any (ni : Int) (v t : Value) (l : List Nd) (p : List Int) (w : World) (h : SlNd w l v) (h1 : SlSh w p t) (left : Int) (e0 : l.length ≤ 9223372036854775807) (e1 : p.length ≤ 9223372036854775807) (b0 : 0 ≤ left) (b1 : left ≤ 1048576) :
    Calls Tryd.prog 38 #[.agg #[.int .i8 ni, v, t], .int .i64 left] w fun e w' => e = .returned (.int .i64 (if left - l.length - p.length < 0 then -1 else left - l.length - p.length)) ∧ Below w.heap.size w w' := by
  have hk : Below w.heap.size w (w.alloc (.cells #[.int .i8 ni, v, t] 63)) := by repeat (first | with_reducible exact Below.refl _ _ | (with_reducible refine kSet ?_ ?hB _; case hB => (simp; try omega)) | with_reducible refine kAlloc ?_ _ | with_reducible refine Below.drew ?_ | with_reducible refine kDrewN ?_ _ | with_reducible refine kTrans ?_ (by assumption))
  have bx := NwAt.box w ni v t 63
  have H0 := Lib.hid (h.below hk)
  have H1 := Lib.hid (h1.below hk)
  obtain ⟨a, c, rfl⟩ := slNd_val h
  obtain ⟨a1, c1, rfl⟩ := slSh_val h1
  clear h h1
  by_cases g0 : left - (l.length : Int) < 0
  · rw [if_pos (by omega)]
    clear bx
    go_enter Tryd.func38, Tryd.ntmps38
    go_wp2_with fail
    refine (szNodeS_any _ l _ H0.out left e0 b0 b1).mono ?_
    rw [if_pos (by omega)]
    rintro e w1 ⟨rfl, rfl⟩
    go_wp2
    go_ret
    exact ⟨rfl, by repeat (first | with_reducible exact Below.refl _ _ | (with_reducible refine kSet ?_ ?hB _; case hB => (simp; try omega)) | with_reducible refine kAlloc ?_ _ | with_reducible refine Below.drew ?_ | with_reducible refine kDrewN ?_ _ | with_reducible refine kTrans ?_ (by assumption))⟩
  · have g0' : ¬ left < (l.length : Int) := by omega
    obtain ⟨c0, c1', c2'⟩ := bx
    by_cases g1 : left - (l.length : Int) - (p.length : Int) < 0
    · rw [if_pos (by omega)]
      go_enter Tryd.func38, Tryd.ntmps38
      go_wp2_with fail
      refine (szNodeS_any _ l _ H0.out left e0 b0 b1).mono ?_
      rw [if_neg (by omega)]
      rintro e w1 ⟨rfl, rfl⟩
      go_wp2_with fail
      refine (szInt16S_any _ p _ H1.out _ e1 (by omega) (by omega)).mono ?_
      rw [if_pos (by omega)]
      rintro e w2 ⟨rfl, rfl⟩
      go_wp2
      go_ret
      exact ⟨rfl, by repeat (first | with_reducible exact Below.refl _ _ | (with_reducible refine kSet ?_ ?hB _; case hB => (simp; try omega)) | with_reducible refine kAlloc ?_ _ | with_reducible refine Below.drew ?_ | with_reducible refine kDrewN ?_ _ | with_reducible refine kTrans ?_ (by assumption))⟩
    · rw [if_neg (by omega)]
      have g1' : ¬ left - (l.length : Int) < (p.length : Int) := by omega
      go_enter Tryd.func38, Tryd.ntmps38
      go_wp2_with fail
      refine (szNodeS_any _ l _ H0.out left e0 b0 b1).mono ?_
      rw [if_neg (by omega)]
      rintro e w1 ⟨rfl, rfl⟩
      go_wp2_with fail
      refine (szInt16S_any _ p _ H1.out _ e1 (by omega) (by omega)).mono ?_
      rw [if_neg (by omega)]
      rintro e w2 ⟨rfl, rfl⟩
      go_wp2
      go_ret
      exact ⟨rfl, by repeat (first | with_reducible exact Below.refl _ _ | (with_reducible refine kSet ?_ ?hB _; case hB => (simp; try omega)) | with_reducible refine kAlloc ?_ _ | with_reducible refine Below.drew ?_ | with_reducible refine kDrewN ?_ _ | with_reducible refine kTrans ?_ (by assumption))⟩
/-- two slices of a network, each in a block of its own, that the holder may write -/
structure OwnN (lo hi : Nat) (w : World) (b k : Nat) (l : List Nd) (p : List Int) : Prop where
  p0 : NdsAt w b 0 l
  p1 : ShsAt w k 0 p
  f0 : ∀ j, w.frozen? ⟨b, j, none⟩ = false
  f1 : ∀ j, w.frozen? ⟨k, j, none⟩ = false
  g0 : lo ≤ b
  g1 : b < k
  h0 : b < w.heap.size
  h1 : k < w.heap.size
  hh : hi ≤ w.heap.size
  hb : k < hi
  hl : lo ≤ hi
theorem OwnN.below {lo hi b k : Nat} {w w' : World} {l : List Nd} {p : List Int} (h : OwnN lo hi w b k l p) (g : Below w.heap.size w w') : OwnN lo hi w' b k l p :=
  ⟨h.p0.below g h.h0, h.p1.below g h.h1, fun j => (g.frozen (p := ⟨b, j, none⟩) h.h0).trans (h.f0 j), fun j => (g.frozen (p := ⟨k, j, none⟩) h.h1).trans (h.f1 j), h.g0, h.g1,
    Nat.lt_of_lt_of_le h.h0 g.size, Nat.lt_of_lt_of_le h.h1 g.size, Nat.le_trans h.hh g.size, h.hb, h.hl⟩
theorem OwnN.out {lo hi lo2 hi2 b k : Nat} {w w' : World} {l : List Nd} {p : List Int} (h : OwnN lo hi w b k l p) (g : KeptOut lo2 hi2 w w') (ho : hi ≤ lo2 ∨ hi2 ≤ lo) : OwnN lo hi w' b k l p := by
  have g0 := h.g0
  have g1 := h.g1
  have gb := h.hb
  exact ⟨h.p0.out g h.h0 (by omega), h.p1.out g h.h1 (by omega), fun j => (g.frozen h.h0 (by omega)).trans (h.f0 j), fun j => (g.frozen h.h1 (by omega)).trans (h.f1 j), h.g0, h.g1,
    Nat.lt_of_lt_of_le h.h0 g.size, Nat.lt_of_lt_of_le h.h1 g.size, Nat.le_trans h.hh g.size, h.hb, h.hl⟩
set_option maxRecDepth 100000 in
set_option maxHeartbeats 4000000 in
theorem toNetwork_own (ni : Int) (v t : Value) (l : List Nd) (p : List Int) (w : World) (h : SlNd w l v) (h1 : SlSh w p t) (m0 : l.length ≤ 1048576) (m1 : p.length ≤ 1048576) :
    Calls Tryd.prog 40 #[.agg #[.int .i8 ni, v, t]] w fun e w' => ∃ b k, e = .returned (.agg #[.int .i8 ni, .slice (some ⟨b, 0, none⟩) l.length l.length, .slice (some ⟨k, 0, none⟩) p.length p.length]) ∧ OwnN w.heap.size w'.heap.size w' b k l p ∧ Below w.heap.size w w' := by
  have hk : Below w.heap.size w (((w.alloc (.cells #[.int .i8 ni, v, t] 63)).alloc (.cells #[.int .i8 0, .slice none 0 0, .slice none 0 0] 56)).alloc (.cells #[.int .i8 0, .slice none 0 0, .slice none 0 0] 56)) := by repeat (first | with_reducible exact Below.refl _ _ | (with_reducible refine kSet ?_ ?hB _; case hB => (simp; try omega)) | with_reducible refine kAlloc ?_ _ | with_reducible refine Below.drew ?_ | with_reducible refine kDrewN ?_ _ | with_reducible refine kTrans ?_ (by assumption))
  obtain ⟨W, hW⟩ : ∃ W, ((w.alloc (.cells #[.int .i8 ni, v, t] 63)).alloc (.cells #[.int .i8 0, .slice none 0 0, .slice none 0 0] 56)).alloc (.cells #[.int .i8 0, .slice none 0 0, .slice none 0 0] 56) = W := ⟨_, rfl⟩
  rw [hW] at hk
  have bA : W.heap[w.heap.size]? = some (.cells #[.int .i8 ni, v, t] 63 (0, 0)) := by
    rw [← hW]; exact blk_below (nNew _ _) (kAlloc (kAlloc (Below.refl _ _) _) _)
  have bR : W.heap[w.heap.size + 1]? = some (.cells #[.int .i8 0, .slice none 0 0, .slice none 0 0] 56 (0, 0)) := by
    rw [← hW]
    have h := nNew (w.alloc (.cells #[.int .i8 ni, v, t] 63)) (.cells #[.int .i8 0, .slice none 0 0, .slice none 0 0] 56)
    simp only [World.size_alloc] at h
    exact blk_below h (kAlloc (Below.refl _ _) _)
  have bX : W.heap[w.heap.size + 2]? = some (.cells #[.int .i8 0, .slice none 0 0, .slice none 0 0] 56 (0, 0)) := by
    rw [← hW]
    have h := nNew ((w.alloc (.cells #[.int .i8 ni, v, t] 63)).alloc (.cells #[.int .i8 0, .slice none 0 0, .slice none 0 0] 56)) (.cells #[.int .i8 0, .slice none 0 0, .slice none 0 0] 56)
    simpa only [World.size_alloc] using h
  have hWs := hk.size
  have hW3 := blk_lt bX
  obtain ⟨W1, hW1⟩ : ∃ W1, W.setCell ⟨w.heap.size + 2, 0, none⟩ (.int .i8 ni) = W1 := ⟨_, rfl⟩
  have hk1 : Below w.heap.size w W1 := by rw [← hW1]; exact kSet hk (by show w.heap.size ≤ w.heap.size + 2; omega) _
  have H0 := Lib.hid (h.below hk1)
  have H1 := Lib.hid h1
  obtain ⟨va, vc, rfl⟩ := slNd_val h
  obtain ⟨va1, vc1, rfl⟩ := slSh_val h1
  have HW := Lib.hid hW
  have HW1 := Lib.hid hW1
  have sz1 : W1.heap.size = W.heap.size := by rw [← hW1]; simp [World.setCell]
  have BR := Lib.hid (show W1.heap[w.heap.size + 1]? = some (.cells #[.int .i8 0, .slice none 0 0, .slice none 0 0] 56 (0, 0)) by rw [← hW1]; exact blk_set bR (by show _ ≠ w.heap.size + 2; omega))
  have BX := Lib.hid (show W1.heap[w.heap.size + 2]? = some (.cells #[.int .i8 ni, .slice none 0 0, .slice none 0 0] 56 (0, 0)) by rw [← hW1]; exact nBlk_set bX)
  have BA := Lib.hid (show W1.heap[w.heap.size]? = some (.cells #[.int .i8 ni, .slice va l.length vc, .slice va1 p.length vc1] 63 (0, 0)) by rw [← hW1]; exact blk_set bA (by show _ ≠ w.heap.size + 2; omega))
  obtain ⟨a0, a1, a2⟩ := NwAt.of bA
  obtain ⟨x0, x1, x2⟩ := NwAt.of bX
  have xf : ∀ j, W.frozen? ⟨w.heap.size + 2, j, none⟩ = false := fun j => frozen_of_row _ _ j _ _ bX
  clear h h1 hW hW1 bA bR bX
  go_enter Tryd.func40, Tryd.ntmps40
  go_upto_region 2 with fail
  try rw [HW.out]
  go_wp2_with fail
  try rw [HW1.out]
  refine (toNodeS_any _ l _ H0.out m0).mono ?_
  rintro e w1 ⟨rfl, p0, z0, f0, hb1⟩
  rw [sz1] at p0 z0 f0 ⊢
  clear a0 a1 a2 x0 x1 x2 xf HW HW1 H0
  have hs1 := hb1.size
  rw [sz1] at hs1
  have X1 := blk_below BX.out hb1
  have R1 := blk_below BR.out hb1
  have A1 := blk_below BA.out hb1
  have T1 := kTrans hk1 hb1
  have H1a := Lib.hid (H1.out.below T1)
  obtain ⟨K0, hK0⟩ : ∃ K0, W.heap.size = K0 := ⟨_, rfl⟩
  rw [hK0] at p0 z0 f0 hs1 hW3 ⊢
  obtain ⟨W2, hW2⟩ : ∃ W2, w1.setCell ⟨w.heap.size + 2, 1, none⟩ (.slice (some ⟨K0, 0, none⟩) l.length l.length) = W2 := ⟨_, rfl⟩
  have o2 : ∀ b, b ≠ w.heap.size + 2 → W2.heap[b]? = w1.heap[b]? := fun b hb => by rw [← hW2, Below.heap_setCell _ _ _ _ hb]
  have X2 := Lib.hid (show W2.heap[w.heap.size + 2]? = some (.cells #[.int .i8 ni, .slice (some ⟨K0, 0, none⟩) l.length l.length, .slice none 0 0] 56 (0, 0)) by rw [← hW2]; exact nBlk_set X1)
  have R2 := Lib.hid ((o2 (w.heap.size + 1) (by omega)).trans R1)
  have sW2 : W2.heap.size = w1.heap.size := by rw [← hW2]; simp [World.setCell]
  have T2 : Below w.heap.size w W2 := by rw [← hW2]; exact kSet T1 (by show w.heap.size ≤ w.heap.size + 2; omega) _
  have k2 : Hid (∀ j, W2.cell? ⟨K0, j, none⟩ = w1.cell? ⟨K0, j, none⟩) := Lib.hid (fun j => World.cell?_of_block (w := w1) (o2 K0 (by omega)))
  have P0 : Hid (NdsAt W2 K0 0 l) := Lib.hid (fun i hi' => by
    obtain ⟨e0, e1, e2⟩ := p0 i hi'
    exact ⟨(k2.out _).trans e0, (k2.out _).trans e1, (k2.out _).trans e2⟩)
  have F0 : Hid (∀ j, W2.frozen? ⟨K0, j, none⟩ = false) := Lib.hid (fun j => (World.frozen?_of_block (w := w1) (o2 K0 (by omega))).trans (f0 j))
  have H2a := Lib.hid (H1.out.below T2)
  have HW2 := Lib.hid hW2
  obtain ⟨a0, a1, a2⟩ := NwAt.of A1
  obtain ⟨x0, x1, x2⟩ := NwAt.of X1
  have xf : ∀ j, w1.frozen? ⟨w.heap.size + 2, j, none⟩ = false := fun j => frozen_of_row _ _ j _ _ X1
  clear p0 f0 hW2 o2 k2 hb1 H1 H1a R1 A1 X1
  go_wp2_with fail
  try rw [HW2.out]
  refine (toInt16S_any _ p _ H2a.out m1).mono ?_
  rintro e w3 ⟨rfl, p1, z1, f1, hb3⟩
  clear a0 a1 a2 x0 x1 x2 xf HW2 H2a
  have hs3 := hb3.size
  obtain ⟨K1, hK1⟩ : ∃ K1, W2.heap.size = K1 := ⟨_, rfl⟩
  have kk : K0 < K1 := by omega
  rw [hK1] at p1 z1 f1 hs3 ⊢
  clear sW2
  have X3 := blk_below X2.out hb3
  have R3 := blk_below R2.out hb3
  have zK : K0 < W2.heap.size := by rw [hK1]; omega
  obtain ⟨W4, hW4⟩ : ∃ W4, w3.setCell ⟨w.heap.size + 2, 2, none⟩ (.slice (some ⟨K1, 0, none⟩) p.length p.length) = W4 := ⟨_, rfl⟩
  have o4 : ∀ b, b ≠ w.heap.size + 2 → W4.heap[b]? = w3.heap[b]? := fun b hb => by rw [← hW4, Below.heap_setCell _ _ _ _ hb]
  have X4 := Lib.hid (show W4.heap[w.heap.size + 2]? = some (.cells #[.int .i8 ni, .slice (some ⟨K0, 0, none⟩) l.length l.length, .slice (some ⟨K1, 0, none⟩) p.length p.length] 56 (0, 0)) by rw [← hW4]; exact nBlk_set X3)
  have R4 := Lib.hid ((o4 (w.heap.size + 1) (by omega)).trans R3)
  have sW4 : W4.heap.size = w3.heap.size := by rw [← hW4]; simp [World.setCell]
  have T4 : Below w.heap.size w W4 := by rw [← hW4]; exact kSet (kTrans T2 hb3) (by show w.heap.size ≤ w.heap.size + 2; omega) _
  have k4 : ∀ b, b ≠ w.heap.size + 2 → ∀ j, W4.cell? ⟨b, j, none⟩ = w3.cell? ⟨b, j, none⟩ := fun b hb j => World.cell?_of_block (w := w3) (o4 b hb)
  have P0' : Hid (NdsAt W4 K0 0 l) := Lib.hid (fun i hi' => by
    obtain ⟨e0, e1, e2⟩ := (P0.out.below hb3 zK) i hi'
    exact ⟨(k4 K0 (by omega) _).trans e0, (k4 K0 (by omega) _).trans e1, (k4 K0 (by omega) _).trans e2⟩)
  have F0' : Hid (∀ j, W4.frozen? ⟨K0, j, none⟩ = false) := Lib.hid (fun j => ((World.frozen?_of_block (w := w3) (o4 K0 (by omega))).trans (hb3.frozen (p := ⟨K0, j, none⟩) zK)).trans (F0.out j))
  have P1 : Hid (ShsAt W4 K1 0 p) := Lib.hid (fun i hi' => (k4 K1 (by omega) _).trans (p1 i hi'))
  have F1 : Hid (∀ j, W4.frozen? ⟨K1, j, none⟩ = false) := Lib.hid (fun j => (World.frozen?_of_block (w := w3) (o4 K1 (by omega))).trans (f1 j))
  have HW4 := Lib.hid hW4
  have zz4 : K1 < W4.heap.size := by omega
  have sW4' := Lib.hid sW4
  clear sW4
  obtain ⟨x0, x1, x2⟩ := NwAt.of X3
  have xf : ∀ j, w3.frozen? ⟨w.heap.size + 2, j, none⟩ = false := fun j => frozen_of_row _ _ j _ _ X3
  clear p1 f1 hW4 o4 k4 hb3 P0 F0 R3 X3 R2 X2
  go_upto_region 5 with fail
  try rw [HW4.out]
  clear x0 x1 x2 xf HW4
  obtain ⟨x0, x1, x2⟩ := NwAt.of X4.out
  have rs := R4.out
  go_wp2_with (refine wpList_store_row rfl 56 _ _ rfl (w.heap.size + 1) #[.int .i8 ni, .slice (some ⟨K0, 0, none⟩) l.length l.length, .slice (some ⟨K1, 0, none⟩) p.length p.length] rfl rfl 56 _ rs (by kernel_rfl) (by kernel_rfl) (by kernel_rfl) ?_)
  refine bodyPost_ret (v := .agg #[.int .i8 ni, .slice (some ⟨K0, 0, none⟩) l.length l.length, .slice (some ⟨K1, 0, none⟩) p.length p.length]) (results_cell_row rfl _ _ (w.heap.size + 1) 56 #[.int .i8 ni, .slice (some ⟨K0, 0, none⟩) l.length l.length, .slice (some ⟨K1, 0, none⟩) p.length p.length] (0, 0) _ rfl (setRow_heap _ _ _ _ _ _ rs) Tryd.underlying56 rfl (by kernel_rfl)) rfl ?_
  have sW4 := sW4'.out
  have hne : ∀ b, b ≠ w.heap.size + 1 → ∀ j, (W4.setRow (w.heap.size + 1) #[.int .i8 ni, .slice (some ⟨K0, 0, none⟩) l.length l.length, .slice (some ⟨K1, 0, none⟩) p.length p.length]).cell? ⟨b, j, none⟩ = W4.cell? ⟨b, j, none⟩ := fun b hb j => World.cell?_of_block (w := W4) (setRow_other _ _ _ _ hb)
  have hnf : ∀ b, b ≠ w.heap.size + 1 → ∀ j, (W4.setRow (w.heap.size + 1) #[.int .i8 ni, .slice (some ⟨K0, 0, none⟩) l.length l.length, .slice (some ⟨K1, 0, none⟩) p.length p.length]).frozen? ⟨b, j, none⟩ = W4.frozen? ⟨b, j, none⟩ := fun b hb j => World.frozen?_of_block (w := W4) (setRow_other _ _ _ _ hb)
  have hsz : (W4.setRow (w.heap.size + 1) #[.int .i8 ni, .slice (some ⟨K0, 0, none⟩) l.length l.length, .slice (some ⟨K1, 0, none⟩) p.length p.length]).heap.size = W4.heap.size := by simp [World.setRow]
  refine ⟨K0, K1, rfl, ⟨fun i hi' => ?_, fun i hi' => ?_, fun j => (hnf _ (by omega) j).trans (F0'.out j), fun j => (hnf _ (by omega) j).trans (F1.out j), by omega, by omega, by rw [hsz]; omega, by rw [hsz]; omega, Nat.le_refl _, by omega, by omega⟩, kRowW T4 (by omega) _⟩
  · obtain ⟨e0, e1, e2⟩ := P0'.out i hi'
    exact ⟨(hne _ (by omega) _).trans e0, (hne _ (by omega) _).trans e1, (hne _ (by omega) _).trans e2⟩
  · exact (hne _ (by omega) _).trans (P1.out i hi')
set_option maxRecDepth 100000 in
set_option maxHeartbeats 2000000 in
theorem eqNetwork_any (ni : Int) (va va1 vb vb1 : Value) (l : List Nd) (p : List Int) (w : World) (ha : SlNd w l va) (ha1 : SlSh w p va1) (hb : SlNd w l vb) (hb1 : SlSh w p vb1) (h8 : NdsWf l) (h81 : ShsWf p) (m0 : l.length ≤ 1048576) (m1 : p.length ≤ 1048576) :
    Calls Tryd.prog 35 #[.agg #[.int .i8 ni, va, va1], .agg #[.int .i8 ni, vb, vb1]] w fun e w' => e = .returned (.bool true) ∧ Below w.heap.size w w' := by
  obtain ⟨W, hW⟩ : ∃ W, (w.alloc (.cells #[.int .i8 ni, va, va1] 56)).alloc (.cells #[.int .i8 ni, vb, vb1] 56) = W := ⟨_, rfl⟩
  have hk : Below w.heap.size w W := by rw [← hW]; exact kAlloc (kAlloc (Below.refl _ _) _) _
  have gA : NwAt W w.heap.size ni va va1 := by rw [← hW]; exact (NwAt.box w ni va va1 56).below (kAlloc (Below.refl _ _) _) (by simp)
  have gB : NwAt W (w.heap.size + 1) ni vb vb1 := by
    rw [← hW]
    have h := NwAt.box (w.alloc (.cells #[.int .i8 ni, va, va1] 56)) ni vb vb1 56
    simpa only [World.size_alloc] using h
  have HA := Lib.hid (ha.below hk)
  have HA1 := Lib.hid (ha1.below hk)
  have HB := Lib.hid (hb.below hk)
  have HB1 := Lib.hid (hb1.below hk)
  obtain ⟨a, ac, rfl⟩ := slNd_val ha
  obtain ⟨a1, ac1, rfl⟩ := slSh_val ha1
  obtain ⟨b, bc, rfl⟩ := slNd_val hb
  obtain ⟨b1, bc1, rfl⟩ := slSh_val hb1
  have GA := Lib.hid gA
  have GB := Lib.hid gB
  have HW := Lib.hid hW
  have H8 := Lib.hid h8
  have H81 := Lib.hid h81
  have la := gA.lt
  have lb := gB.lt
  obtain ⟨x0, x1, x2⟩ := gA
  obtain ⟨y0, y1, y2⟩ := gB
  clear ha ha1 hb hb1 h8 h81 hW
  go_enter Tryd.func35, Tryd.ntmps35
  go_upto_region 1 with fail
  try rw [HW.out]
  go_wp2_with fail
  try (go_quiet (fail))
  try go_wp2_with fail
  refine (eqNodeS_any _ _ l _ (HA.out.below (by repeat (first | with_reducible exact Below.refl _ _ | (with_reducible refine kSet ?_ ?hB _; case hB => (simp; try omega)) | with_reducible refine kAlloc ?_ _ | with_reducible refine Below.drew ?_ | with_reducible refine kDrewN ?_ _ | with_reducible refine kTrans ?_ (by assumption)))) (HB.out.below (by repeat (first | with_reducible exact Below.refl _ _ | (with_reducible refine kSet ?_ ?hB _; case hB => (simp; try omega)) | with_reducible refine kAlloc ?_ _ | with_reducible refine Below.drew ?_ | with_reducible refine kDrewN ?_ _ | with_reducible refine kTrans ?_ (by assumption)))) H8.out m0).mono ?_
  rintro e w1 ⟨rfl, e1⟩
  have T1 : Below w.heap.size w w1 := kTrans (by first | exact hk | exact kDrewN hk _ | exact hk.drew) e1
  have GA1 := GA.out.below (show Below W.heap.size W w1 from kTrans (by first | exact Below.refl _ _ | exact kDrewN (Below.refl _ _) _ | exact (Below.refl _ _).drew) e1) la
  have GB1 := GB.out.below (show Below W.heap.size W w1 from kTrans (by first | exact Below.refl _ _ | exact kDrewN (Below.refl _ _) _ | exact (Below.refl _ _).drew) e1) lb
  have K1 := Lib.hid (HA1.out.below (show Below W.heap.size W w1 from kTrans (by first | exact Below.refl _ _ | exact kDrewN (Below.refl _ _) _ | exact (Below.refl _ _).drew) e1))
  have L1 := Lib.hid (HB1.out.below (show Below W.heap.size W w1 from kTrans (by first | exact Below.refl _ _ | exact kDrewN (Below.refl _ _) _ | exact (Below.refl _ _).drew) e1))
  clear x0 x1 x2 y0 y1 y2 HA HA1 HB HB1 GA GB e1 HW
  obtain ⟨x0, x1, x2⟩ := GA1
  obtain ⟨y0, y1, y2⟩ := GB1
  go_wp2_with fail
  refine (eqInt16S_any _ _ p _ K1.out L1.out H81.out m1).mono ?_
  rintro e w2 ⟨rfl, e2⟩
  have T2 := kTrans T1 e2
  clear x0 x1 x2 y0 y1 y2 K1 L1
  go_wp2
  go_ret
  exact ⟨rfl, T2⟩
set_option maxRecDepth 100000 in
set_option maxHeartbeats 4000000 in
theorem markNetwork_any (lo hi b k : Nat) (ni : Int) (l : List Nd) (p : List Int) (x : Int) (w : World) (h : OwnN lo hi w b k l p) (hk0 : 0 ≤ x) (hk1 : x ≤ 80000000) (m0 : l.length ≤ 1048576) (m1 : p.length ≤ 1048576) :
    Calls Tryd.prog 36 #[.agg #[.int .i8 ni, .slice (some ⟨b, 0, none⟩) l.length l.length, .slice (some ⟨k, 0, none⟩) p.length p.length], .int .i64 x] w fun e w' => e = .returned (.int .i64 (x + 3 * l.length + 1 * p.length)) ∧ KeptOut lo hi w w' := by
  obtain ⟨W, hW⟩ : ∃ W, w.alloc (.cells #[.int .i8 ni, .slice (some ⟨b, 0, none⟩) l.length l.length, .slice (some ⟨k, 0, none⟩) p.length p.length] 56) = W := ⟨_, rfl⟩
  have ka : Below w.heap.size w W := by rw [← hW]; exact kAlloc (Below.refl _ _) _
  have H := h.below ka
  have bm : W.heap[w.heap.size]? = some (.cells #[.int .i8 ni, .slice (some ⟨b, 0, none⟩) l.length l.length, .slice (some ⟨k, 0, none⟩) p.length p.length] 56 (0, 0)) := by rw [← hW]; exact nNew _ _
  have hlt := blk_lt bm
  have hhi : hi ≤ w.heap.size := h.hh
  have S0 := Lib.hid (SlWNd.mk (lo := b) (hi := b + 1) b 0 _ H.p0 (Nat.le_refl _) (Nat.lt_succ_self _) H.h0 H.f0 (Nat.le_refl _))
  have S1 := Lib.hid (SlWSh.mk (lo := k) (hi := k + 1) k 0 _ H.p1 (Nat.le_refl _) (Nat.lt_succ_self _) H.h1 H.f1 (Nat.le_refl _))
  have BM := Lib.hid bm
  have HW := Lib.hid hW
  have K0 := Lib.hid (KeptOut.of_below (lo := lo) (hi := hi) ka)
  have g0 := h.g0
  have g1 := h.g1
  have gb := h.hb
  have s0 := H.h0
  have s1 := H.h1
  obtain ⟨c0, c1, c2⟩ := NwAt.of bm
  have q0 : (3 : Int) * l.length ≤ 3 * 1048576 := by omega
  clear h H bm hW ka
  go_enter Tryd.func36, Tryd.ntmps36
  go_upto_region 1 with fail
  try rw [HW.out]
  go_wp2_with fail
  refine (markNodeS_any b (b + 1) _ l x _ S0.out hk0 (by omega) m0).mono ?_
  rintro e w1 ⟨rfl, _, k1⟩
  have bm1 := Lib.hid (blk_out BM.out k1 (by omega))
  have S1a := Lib.hid (S1.out.out k1 (by omega))
  have K1 := Lib.hid (K0.out.trans (k1.widen g0 (by omega)))
  have z1 := k1.size
  clear c0 c1 c2 S0 S1 BM K0 k1 HW
  obtain ⟨c0, c1, c2⟩ := NwAt.of bm1.out
  go_wp2_with fail
  refine (markInt16S_any k (k + 1) _ p _ _ S1a.out (by omega) (by omega) m1).mono ?_
  rintro e w2 ⟨rfl, _, k2⟩
  have K2 := Lib.hid (K1.out.trans (k2.widen (by omega) (by omega)))
  clear c0 c1 c2 S1a bm1 K1 k2
  go_wp2
  go_ret
  rw [Int.one_mul]
  exact ⟨rfl, K2.out⟩
theorem open_network {H : Type} {enc : TypeId × Value → H} {P : Program} {w : World} {r : Reach} {b0 base : Nat} {spare : Nat → Bool} {held : Bool} {t e e1 : TypeId} {f0 f1 f2 : Field} {v : Value} {d : DataW H} {p : List MemPlace}
    (hs : P.underlying t = some (.struct #[f0, f1, f2])) (hone : oneCellFields P #[f0, f1, f2] = true) (hC : P.cellsOf t = 3) (h0 : P.underlying f0.type = some (.int .i8)) (h1 : P.underlying f1.type = some (.slice e)) (h2 : P.underlying f2.type = some (.slice e1))
    (hce : P.cellsOf e = 3) (hfl : flat P 4 e = some [.i8, .i16, .i16]) (hce1 : P.cellsOf e1 = 1) (hfl1 : flat P 4 e1 = some [.i16]) (hv : Value.okWide P w r b0 t v) (h : DataW.Trod enc P w base spare held t v d p) :
    ∃ (ni : Int) (s s1 : Value) (l : List Nd) (l1 : List Int), v = .agg #[.int .i8 ni, s, s1] ∧ i8 ni ∧ SlNd w l s ∧ NdsWf l ∧ l.length ≤ maxLen ∧ SlSh w l1 s1 ∧ ShsWf l1 ∧ l1.length ≤ maxLen := by
  obtain ⟨v0, v1, v2, y0, y1, y2, n, rfl, _, _, g0, g1, g2⟩ := open_agg3 hs hone hC hv h
  obtain ⟨a, ha, _, wa⟩ := DataW.trod_int h0 g0
  simp only [List.cons.injEq, and_true] at ha
  subst ha
  obtain ⟨l, hl, h8, hm⟩ := open_Nds h1 hce hfl g1
  obtain ⟨l1, hl1, h81, hm1⟩ := open_Shs h2 hce1 hfl1 g2
  exact ⟨a, v1, v2, l, l1, rfl, i8_of wa, hl, h8, hm, hl1, h81, hm1⟩
theorem network_struct : ∃ f0 f1 f2 : Field, Tryd.prog.underlying 63 = some (.struct #[f0, f1, f2]) ∧ oneCellFields Tryd.prog #[f0, f1, f2] = true ∧ Tryd.prog.cellsOf 63 = 3 ∧ Tryd.prog.underlying f0.type = some (.int .i8) ∧ Tryd.prog.underlying f1.type = some (.slice 189) ∧ Tryd.prog.underlying f2.type = some (.slice 99) :=
  ⟨_, _, _, Tryd.underlying63, by kernel_rfl, by kernel_rfl, by kernel_rfl, by kernel_rfl, by kernel_rfl⟩
structure NSO (B : Nat) (w : World) (v t : Value) (l : List Nd) (p : List Int) : Prop where
  a : SlONd B w l v
  b : SlOSh B w p t
theorem NSO.start {w : World} {v t : Value} {l : List Nd} {p : List Int} (h : SlNd w l v) (h1 : SlSh w p t) : NSO w.heap.size w v t l p := ⟨SlONd.start h, SlOSh.start h1⟩
theorem NSO.below {B : Nat} {w w' : World} {v t : Value} {l : List Nd} {p : List Int} (h : NSO B w v t l p) (g : Below w.heap.size w w') : NSO B w' v t l p := ⟨h.a.below g, h.b.below g⟩
theorem NSO.out {B lo hi : Nat} {w w' : World} {v t : Value} {l : List Nd} {p : List Int} (h : NSO B w v t l p) (g : KeptOut lo hi w w') (ho : B ≤ lo) : NSO B w' v t l p := ⟨h.a.out g ho, h.b.out g ho⟩
structure NK (w : World) (b k : Nat) (l : List Nd) (p : List Int) : Prop where
  p0 : NdsAt w b 0 l
  p1 : ShsAt w k 0 p
  z0 : b < w.heap.size
  z1 : k < w.heap.size
theorem NK.below {w w' : World} {b k : Nat} {l : List Nd} {p : List Int} (h : NK w b k l p) (g : Below w.heap.size w w') : NK w' b k l p :=
  ⟨h.p0.below g h.z0, h.p1.below g h.z1, Nat.lt_of_lt_of_le h.z0 g.size, Nat.lt_of_lt_of_le h.z1 g.size⟩
theorem OwnN.pk {lo hi b k : Nat} {w : World} {l : List Nd} {p : List Int} (h : OwnN lo hi w b k l p) : NK w b k l p := ⟨h.p0, h.p1, h.h0, h.h1⟩
theorem toN_own {B : Nat} (ni : Int) (v t : Value) (l : List Nd) (p : List Int) (w : World) (h : NSO B w v t l p) (m0 : l.length ≤ 1048576) (m1 : p.length ≤ 1048576) :
    Calls Tryd.prog 40 #[.agg #[.int .i8 ni, v, t]] w fun e w' => ∃ b k, e = .returned (.agg #[.int .i8 ni, .slice (some ⟨b, 0, none⟩) l.length l.length, .slice (some ⟨k, 0, none⟩) p.length p.length]) ∧ OwnN w.heap.size w'.heap.size w' b k l p ∧ Below w.heap.size w w' :=
  toNetwork_own ni v t l p w h.a.sl h.b.sl m0 m1
theorem szN {B : Nat} (ni : Int) (v t : Value) (l : List Nd) (p : List Int) (w : World) (h : NSO B w v t l p) (left : Int) (e0 : l.length ≤ 9223372036854775807) (e1 : p.length ≤ 9223372036854775807) (b0 : 0 ≤ left) (b1 : left ≤ 1048576) :
    Calls Tryd.prog 38 #[.agg #[.int .i8 ni, v, t], .int .i64 left] w fun e w' => e = .returned (.int .i64 (if left - l.length - p.length < 0 then -1 else left - l.length - p.length)) ∧ Below w.heap.size w w' :=
  szNetwork_any ni v t l p w h.a.sl h.b.sl left e0 e1 b0 b1
theorem eqN (ni : Int) (b k b' k' : Nat) (l : List Nd) (p : List Int) (w : World) (h : NK w b k l p) (h' : NK w b' k' l p) (h8 : NdsWf l) (h81 : ShsWf p) (m0 : l.length ≤ 1048576) (m1 : p.length ≤ 1048576) :
    Calls Tryd.prog 35 #[.agg #[.int .i8 ni, .slice (some ⟨b, 0, none⟩) l.length l.length, .slice (some ⟨k, 0, none⟩) p.length p.length], .agg #[.int .i8 ni, .slice (some ⟨b', 0, none⟩) l.length l.length, .slice (some ⟨k', 0, none⟩) p.length p.length]] w fun e w' => e = .returned (.bool true) ∧ Below w.heap.size w w' :=
  eqNetwork_any ni _ _ _ _ l p w (SlNd.mk b 0 _ h.p0 h.z0 (Nat.le_refl _)) (SlSh.mk k 0 _ h.p1 h.z1 (Nat.le_refl _)) (SlNd.mk b' 0 _ h'.p0 h'.z0 (Nat.le_refl _)) (SlSh.mk k' 0 _ h'.p1 h'.z1 (Nat.le_refl _)) h8 h81 m0 m1
end Go.Proofs.YtobhppkcgioheaaDoor
