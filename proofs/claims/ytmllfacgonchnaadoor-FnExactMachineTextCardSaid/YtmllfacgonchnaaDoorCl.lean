/- Records of the type Cell: cells, slices, and the laws' own functions on them. -/
import Derived.Test.YtmllfacgonchnaaDoorG1
import Derived.StillTailTactics
import Derived.Deep.RegionHeld3
namespace Go.Proofs.YtmllfacgonchnaaDoor
open Go.ChangeShapes Go.WideShapes Go.ChangeAt Go.RowKit Go.Joins Go.Deep
set_option linter.unusedVariables false

structure Cl where
  x : Int
  y : Int
deriving DecidableEq
def Cl.wf (p : Cl) : Prop := (Lit.int .i8 p.x).wf = true ∧ (Lit.int .i8 p.y).wf = true
def ClAt (w : World) (b o : Nat) (p : Cl) : Prop :=
  w.cell? ⟨b, o, none⟩ = some (.int .i8 p.x) ∧ w.cell? ⟨b, o + 1, none⟩ = some (.int .i8 p.y)
theorem ClAt.box (w : World) (p : Cl) (t : TypeId) : ClAt (w.alloc (.cells #[.int .i8 p.x, .int .i8 p.y] t)) w.heap.size 0 p := by
  refine ⟨?_, ?_⟩ <;> simp
theorem ClAt.below {W w' : World} {b o : Nat} {p : Cl} (h : ClAt W b o p) (hb : Below W.heap.size W w') (hl : b < W.heap.size) : ClAt w' b o p := by
  obtain ⟨h0, h1⟩ := h
  exact ⟨(hb.cell (p := ⟨b, _, none⟩) hl).trans h0, (hb.cell (p := ⟨b, _, none⟩) hl).trans h1⟩
def ClsAt (w : World) (b o : Nat) (l : List Cl) : Prop := ∀ i (h : i < l.length), ClAt w b (o + i * 2) l[i]
theorem ClsAt.below {W w' : World} {b o : Nat} {l : List Cl} (h : ClsAt W b o l) (hb : Below W.heap.size W w') (hl : b < W.heap.size) : ClsAt w' b o l :=
  fun i hi => (h i hi).below hb hl
def ClsWf (l : List Cl) : Prop := ∀ p ∈ l, p.wf
inductive SlCl (w : World) (l : List Cl) : Value → Prop where
  | empty (a : Option Addr) (cap : Nat) (h : l = []) : SlCl w l (.slice a 0 cap)
  | mk (b o cap : Nat) (hc : ClsAt w b o l) (hb : b < w.heap.size) (hl : l.length ≤ cap) : SlCl w l (.slice (some ⟨b, o, none⟩) l.length cap)
theorem SlCl.below {w w' : World} {l : List Cl} {s : Value} (h : SlCl w l s) (hb : Below w.heap.size w w') : SlCl w' l s := by
  cases h with
  | empty a cap h => exact .empty a cap h
  | mk b o cap hc hbl hl => exact .mk b o cap (hc.below hb hbl) (Nat.lt_of_lt_of_le hbl hb.size) hl

theorem szCellS_any (v : Value) (l : List Cl) (w : World) (h : SlCl w l v) (left : Int) (hl : l.length ≤ 9223372036854775807) (h0 : 0 ≤ left) (h1 : left ≤ 1048576) :
    Calls Tryd.prog 70 #[v, .int .i64 left] w fun e w' => e = .returned (.int .i64 (if left - l.length < 0 then -1 else left - l.length)) ∧ w = w' := by
  have key : ∀ (a : Option Addr) (n cap : Nat), n ≤ 9223372036854775807 → Calls Tryd.prog 70 #[.slice a n cap, .int .i64 left] w fun e w' => e = .returned (.int .i64 (if left - n < 0 then -1 else left - n)) ∧ w = w' := by
    intro a n cap hn
    by_cases hlt : left - n < 0
    · rw [if_pos hlt]
      go_enter Tryd.func70, Tryd.ntmps70
      go_wp2
      go_ret
      exact ⟨rfl, rfl⟩
    · rw [if_neg hlt]
      go_enter Tryd.func70, Tryd.ntmps70
      go_wp2
      go_ret
      exact ⟨rfl, rfl⟩
  cases h with
  | empty a cap h => subst h; exact key a 0 cap (by decide)
  | mk b o cap hc hb hle => exact key _ _ _ hl
set_option maxRecDepth 100000 in
set_option maxHeartbeats 2000000 in
theorem eqCellS_mk (b1 o1 b2 o2 n c1 c2 : Nat) (l : List Cl) (w : World) (hn : l.length = n) (h1 : ClsAt w b1 o1 l) (h2 : ClsAt w b2 o2 l) (hb1 : b1 < w.heap.size) (hb2 : b2 < w.heap.size) (h8 : ClsWf l) (hc1 : n ≤ c1) (hc2 : n ≤ c2) (hmax : n ≤ 1048576) :
    Calls Tryd.prog 77 #[.slice (some ⟨b1, o1, none⟩) n c1, .slice (some ⟨b2, o2, none⟩) n c2] w fun e w' => e = .returned (.bool true) ∧ Below w.heap.size w w' := by
  have Hn := Lib.hid hn
  clear hn
  go_enter Tryd.func77, Tryd.ntmps77
  go_wp2
  go_loopw [5] (fun i wr => ∃ k : Nat, k ≤ n ∧ i = .int .i64 k ∧ Below w.heap.size w wr) (fun i _ => n - (intOf i).toNat)
  case atStart => exact ⟨0, by omega, rfl, Below.refl _ _⟩
  case round =>
    obtain ⟨k, hk, rfl, hbr⟩ := hrel
    by_cases hlt : k < n
    · have hlk : k < l.length := by rw [Hn.out]; exact hlt
      have hp1 := (h1.below hbr hb1) k hlk
      have hp2 := (h2.below hbr hb2) k hlk
      have hp8 := h8 _ (List.getElem_mem hlk)
      generalize hpe : l[k] = p at hp1 hp2 hp8
      obtain ⟨a0, a1⟩ := hp1
      obtain ⟨d0, d1⟩ := hp2
      clear h1 h2 h8 hpe
      go_wp2
      go_still_tail 8, (by kernel_rfl)
      change wpList _ _ _ _ _ wr.drew
      have hbw : Below w.heap.size w wr.drew := Below.drew hbr
      generalize wr.drew = w2 at hbw ⊢
      go_wp2_with fail
      refine (eqCell_same p.x p.y _ (i8_of hp8.1) (i8_of hp8.2)).mono ?_
      rintro e w3 ⟨rfl, hb3⟩
      have hb4 := kTrans hbw hb3
      clear hbw hb3
      go_wp2
      exact ⟨⟨k + 1, by omega, by go_num, hb4⟩, by simp [intOf]; omega⟩
    · clear h1 h2 h8
      go_wp2
      go_ret
      exact ⟨rfl, hbr⟩
set_option maxHeartbeats 1000000 in
theorem eqCellS_empty (a1 a2 : Option Addr) (c1 c2 : Nat) (w : World) :
    Calls Tryd.prog 77 #[.slice a1 0 c1, .slice a2 0 c2] w fun e w' => e = .returned (.bool true) ∧ Below w.heap.size w w' := by
  go_enter Tryd.func77, Tryd.ntmps77
  go_wp2
  refine wp_loop_rounds 1 ?_
  rw [rounds_succ]
  go_wp2
  go_ret
  exact ⟨rfl, Below.refl _ _⟩
theorem eqCellS_any (v1 v2 : Value) (l : List Cl) (w : World) (h1 : SlCl w l v1) (h2 : SlCl w l v2) (h8 : ClsWf l) (hmax : l.length ≤ 1048576) :
    Calls Tryd.prog 77 #[v1, v2] w fun e w' => e = .returned (.bool true) ∧ Below w.heap.size w w' := by
  cases h1 with
  | empty a cap h =>
    subst h
    cases h2 with
    | empty a2 cap2 h => exact eqCellS_empty a a2 cap cap2 w
    | mk b o cap2 hc hb hl => exact eqCellS_empty a _ cap cap2 w
  | mk b o cap hc hb hl =>
    cases h2 with
    | empty a2 cap2 h => subst h; exact eqCellS_empty _ a2 cap cap2 w
    | mk b2 o2 cap2 hc2 hb2 hl2 => exact eqCellS_mk b o b2 o2 _ cap cap2 l w rfl hc hc2 hb hb2 h8 hl hl2 hmax
def World.setCl (w : World) (B o : Nat) (p : Cl) : World :=
  ((w.setCell ⟨B, o, none⟩ (.int .i8 p.x)).setCell ⟨B, o + 1, none⟩ (.int .i8 p.y))
theorem setCl_at {w : World} {B o : Nat} {p : Cl} (h : ∀ j, j < 2 → ∃ v, w.cell? ⟨B, o + j, none⟩ = some v) : ClAt (World.setCl w B o p) B o p := by
  obtain ⟨v0, h0⟩ := h 0 (by omega)
  rw [Nat.add_zero] at h0
  obtain ⟨v1, h1⟩ := h 1 (by omega)
  have ne : ∀ a b : Nat, a ≠ b → (⟨B, a, none⟩ : Addr) ≠ ⟨B, b, none⟩ := by intro a b hab e; injection e with _ h2 _; exact hab h2
  unfold World.setCl ClAt
  refine ⟨?_, ?_⟩
  · rw [World.cell?_setCell_other _ _ _ _ (ne _ _ (by omega)), World.cell?_setCell_same _ _ _ (h0)]
  · rw [World.cell?_setCell_same _ _ _ (by rw [World.cell?_setCell_other _ _ _ _ (ne _ _ (by omega))]; exact h1)]
theorem setCl_other {w : World} {B o : Nat} {p : Cl} {b i : Nat} (h : b ≠ B ∨ i < o ∨ o + 2 ≤ i) : (World.setCl w B o p).cell? ⟨b, i, none⟩ = w.cell? ⟨b, i, none⟩ := by
  have ne : ∀ a : Nat, (o ≤ a ∧ a < o + 2) → (⟨B, a, none⟩ : Addr) ≠ ⟨b, i, none⟩ := by intro a hab e; injection e with h1 h2 _; omega
  unfold World.setCl
  rw [World.cell?_setCell_other _ _ _ _ (ne _ (by omega)), World.cell?_setCell_other _ _ _ _ (ne _ (by omega))]
/-- block B is a row of the call's own of n records, whose first k are those of 'l' -/
def FilledCl (w : World) (B n : Nat) (l : List Cl) (k : Nat) : Prop :=
  B < w.heap.size ∧ (∀ i (h : i < l.length), i < k → ClAt w B (0 + i * 2) l[i]) ∧ (∀ j, j < n * 2 → ∃ v, w.cell? ⟨B, j, none⟩ = some v) ∧ (∀ j, w.frozen? ⟨B, j, none⟩ = false)
theorem FilledCl.made {w w' : World} {n B : Nat} {l : List Cl} {e : TypeId} {v : Value} {xs : List Value} (h : w.ownsRow B e 2 (.slice (some ⟨B, 0, none⟩) n n) n xs) : FilledCl w B n l 0 := by
  refine ⟨(h.lt B rfl).2, fun i _ hi => absurd hi (by omega), fun j hj => ?_, fun j => h.frozenAt j⟩
  have hl : xs.length = n * 2 := h.1
  exact ⟨xs[j]'(by omega), by rw [h.cellAt j hj]; exact List.getElem?_eq_getElem (by omega)⟩
theorem FilledCl.below {w w' : World} {n B k : Nat} {l : List Cl} (h : FilledCl w B n l k) (hb : Below w.heap.size w w') : FilledCl w' B n l k := by
  obtain ⟨h1, h2, h3, h4⟩ := h
  refine ⟨Nat.lt_of_lt_of_le h1 hb.size, fun i hi hk => (h2 i hi hk).below hb h1, fun j hj => ?_, fun j => ?_⟩
  · rw [hb.cell (p := ⟨B, j, none⟩) h1]; exact h3 j hj
  · rw [hb.frozen (p := ⟨B, j, none⟩) h1]; exact h4 j
theorem FilledCl.store {w : World} {B n k : Nat} {l : List Cl} {p : Cl} (h : FilledCl w B n l k) (hk : k < l.length) (hp : l[k] = p) (hkn : k < n) : FilledCl (World.setCl w B (k * 2) p) B n l (k + 1) := by
  obtain ⟨h1, h2, h3, h4⟩ := h
  refine ⟨by simpa [World.setCl, World.size_setCell] using h1, fun i hi hik => ?_, fun j hj => ?_, fun j => ?_⟩
  · by_cases e : i = k
    · subst e
      rw [hp, Nat.zero_add]
      exact setCl_at (fun j hj => h3 _ (by omega))
    · obtain ⟨a0, a1⟩ := h2 i hi (by omega)
      exact ⟨by rw [setCl_other (by omega)]; exact a0, by rw [setCl_other (by omega)]; exact a1⟩
  · obtain ⟨v, hv⟩ := h3 j hj
    unfold World.setCl
    obtain ⟨v1, g1⟩ := cell_set (j := k * 2) (v := .int .i8 p.x) hv
    exact cell_set (j := k * 2 + 1) (v := .int .i8 p.y) g1
  · unfold World.setCl
    simp only [World.frozen?_setCell]
    exact h4 j

theorem info_Cl : (Tryd.prog.info? 45).map (fun i => (i.zero, i.size, i.bytes)) = some (some (.agg #[.int .i8 0, .int .i8 0]), 2, 2) := by kernel_rfl
set_option maxRecDepth 100000 in
set_option maxHeartbeats 2000000 in
theorem toCellS_some (b o n cap : Nat) (l : List Cl) (w : World) (hc : ClsAt w b o l) (hb : b < w.heap.size) (hn : l.length = n) (hcap : n ≤ cap) (hmax : n ≤ 1048576) :
    Calls Tryd.prog 74 #[.slice (some ⟨b, o, none⟩) n cap] w fun e w' => e = .returned (.slice (some ⟨w.heap.size, 0, none⟩) n n) ∧ ClsAt w' w.heap.size 0 l ∧ w.heap.size < w'.heap.size ∧ (∀ j, w'.frozen? ⟨w.heap.size, j, none⟩ = false) ∧ Below w.heap.size w w' := by
  obtain ⟨i0, hi, hz0, hz1, hz2⟩ := info_parts info_Cl
  have Hn := Lib.hid hn
  clear hn
  go_enter Tryd.func74, Tryd.ntmps74
  go_wp2_with (refine wpList_make_full _ rfl _ _ 71 rfl w.heap.size 45 i0 _ 2 Tryd.underlying71 hi hz0 hz1 _ _ _ _ n rfl rfl rfl rfl ?c1 ?c2 ?c3 ?_)
  case c1 => rw [hz2]; omega
  case c2 => unfold maxLen; omega
  case c3 => exact Nat.le_refl _
  intro w1 hown hgr
  have hF : FilledCl w1 w.heap.size n l 0 := FilledCl.made (w' := w) (v := .int .i8 0) hown
  have hB : Below w.heap.size w w1 := (Below.refl _ _).grown hgr (Nat.le_refl _) (by intro k hk; cases hk)
  clear hown hgr hz0 hz1 hz2 hi i0
  go_wp2
  go_loopw [4] (fun i wr => ∃ k : Nat, k ≤ n ∧ i = .int .i64 k ∧ FilledCl wr w.heap.size n l k ∧ Below w.heap.size w wr) (fun i _ => n - (intOf i).toNat)
  case atStart => exact ⟨0, by omega, rfl, hF, hB⟩
  case round =>
    obtain ⟨k, hk, rfl, hf, hbr⟩ := hrel
    by_cases hlt : k < n
    · have hlk : k < l.length := by rw [Hn.out]; exact hlt
      have hpc := (hc.below hbr hb) k hlk
      generalize hpe : l[k] = p at hpc
      have Hp := Lib.hid hpe
      clear hpe
      obtain ⟨c0, c1⟩ := hpc
      clear hc hF hB
      go_wp2_with fail
      refine (toCell_any p.x p.y _).mono ?_
      rintro e w2 ⟨rfl, hb2⟩
      have hf2 := hf.below hb2
      have hbr2 := kTrans hbr hb2
      obtain ⟨hs2, hd2, hx2, hz2⟩ := hf2
      obtain ⟨v0, d0⟩ := hx2 (k * 2) (by omega)
      obtain ⟨v1, d1⟩ := hx2 (k * 2 + 1) (by omega)
      have f0 := hz2 (k * 2)
      have f1 := hz2 (k * 2 + 1)
      have HF := Lib.hid ((hf.below hb2).store hlk Hp.out hlt)
      have HB : Hid (Below w.heap.size w (World.setCl w2 w.heap.size (k * 2) p)) := Lib.hid (kSet (kSet hbr2 (Nat.le_refl _) _) (Nat.le_refl _) _)
      clear hd2 hx2 hz2 hf hb2 hbr hbr2
      go_wp2
      exact ⟨⟨k + 1, by omega, by go_num, HF.out, HB.out⟩, by simp [intOf]; omega⟩
    · have e : k = n := by omega
      have H1 : Hid (ClsAt wr w.heap.size 0 l) := Lib.hid (fun i hi => hf.2.1 i hi (by rw [e, ← Hn.out]; exact hi))
      have H2 := hf.1
      have H3 : Hid (∀ j, wr.frozen? ⟨w.heap.size, j, none⟩ = false) := Lib.hid hf.2.2.2
      clear e hf hF hB hc
      go_wp2
      go_ret
      exact ⟨rfl, H1.out, H2, H3.out, hbr⟩
set_option maxRecDepth 100000 in
set_option maxHeartbeats 2000000 in
theorem toCellS_empty (a : Option Addr) (cap : Nat) (w : World) :
    Calls Tryd.prog 74 #[.slice a 0 cap] w fun e w' => e = .returned (.slice (some ⟨w.heap.size, 0, none⟩) 0 0) ∧ w.heap.size < w'.heap.size ∧ (∀ j, w'.frozen? ⟨w.heap.size, j, none⟩ = false) ∧ Below w.heap.size w w' := by
  obtain ⟨i0, hi, hz0, hz1, hz2⟩ := info_parts info_Cl
  go_enter Tryd.func74, Tryd.ntmps74
  go_wp2_with (refine wpList_make_full _ rfl _ _ 71 rfl w.heap.size 45 i0 _ 2 Tryd.underlying71 hi hz0 hz1 _ _ _ _ 0 rfl rfl rfl rfl ?c1 ?c2 ?c3 ?_)
  case c1 => rw [hz2]; omega
  case c2 => unfold maxLen; omega
  case c3 => exact Nat.le_refl _
  intro w1 hown hgr
  have hF : FilledCl w1 w.heap.size 0 [] 0 := FilledCl.made (w' := w) (v := .int .i8 0) hown
  have hB : Below w.heap.size w w1 := (Below.refl _ _).grown hgr (Nat.le_refl _) (by intro k hk; cases hk)
  have hs := hF.1
  have H3 : Hid (∀ j, w1.frozen? ⟨w.heap.size, j, none⟩ = false) := Lib.hid hF.2.2.2
  clear hown hgr hz0 hz1 hz2 hi i0 hF
  go_wp2
  refine wp_loop_rounds 1 ?_
  rw [rounds_succ]
  go_wp2
  go_ret
  exact ⟨rfl, hs, H3.out, hB⟩
theorem toCellS_any (v : Value) (l : List Cl) (w : World) (h : SlCl w l v) (hmax : l.length ≤ 1048576) :
    Calls Tryd.prog 74 #[v] w fun e w' => e = .returned (.slice (some ⟨w.heap.size, 0, none⟩) l.length l.length) ∧ ClsAt w' w.heap.size 0 l ∧ w.heap.size < w'.heap.size ∧ (∀ j, w'.frozen? ⟨w.heap.size, j, none⟩ = false) ∧ Below w.heap.size w w' := by
  cases h with
  | empty a cap h => subst h; exact (toCellS_empty a cap w).mono fun e w' ⟨h1, h2, h3, h4⟩ => ⟨h1, fun i hi => absurd hi (by simp), h2, h3, h4⟩
  | mk b o cap hc hb hl => exact toCellS_some b o _ cap l w hc hb rfl hl hmax
theorem intsCl_list {cs : List Value} {k0 k1 : IntKind} (h : Ints cs [k0, k1]) : ∃ u0 u1 : Int, cs = [.int k0 u0, .int k1 u1] ∧ (Lit.int k0 u0).wf = true ∧ (Lit.int k1 u1).wf = true := by
  match cs, h with
  | [_, _], ⟨⟨x0, rfl, h0⟩, ⟨x1, rfl, h1⟩, _⟩ => exact ⟨x0, x1, rfl, h0, h1⟩
theorem ints_Cl {cs : List Value} (h : Ints cs [.i8, .i8]) : ∃ p : Cl, cs = [.int .i8 p.x, .int .i8 p.y] ∧ p.wf := by
  obtain ⟨x0, x1, e, h0, h1⟩ := intsCl_list h
  exact ⟨⟨x0, x1⟩, e, h0, h1⟩
theorem Cl_of_cells {w : World} {base b o : Nat} {cs : List Value} (h : w.cells? base ⟨b, o, none⟩ 2 = some cs) (hi : Ints cs [.i8, .i8]) : ∃ p : Cl, ClAt w b o p ∧ p.wf := by
  obtain ⟨p, rfl, hp⟩ := ints_Cl hi
  obtain ⟨_, _, hc⟩ := World.cells?_some h
  have h0 := hc 0 (by omega)
  have h1 := hc 1 (by omega)
  rw [add_none] at h0 h1
  exact ⟨p, ⟨h0, h1⟩, hp⟩
theorem open_Cls {H : Type} {enc : TypeId × Value → H} {P : Program} {w : World} {base : Nat} {spare : Nat → Bool} {held : Bool} {t e : TypeId} {fuel : Nat} {v : Value} {x : DataW H × List MemPlace}
    (ht : P.underlying t = some (.slice e)) (hce : P.cellsOf e = 2) (hfl : flat P 4 e = some [.i8, .i8]) (h : DataW.trod enc P w base spare held fuel t [v] = some x) :
    ∃ l : List Cl, SlCl w l v ∧ ClsWf l ∧ l.length ≤ maxLen := by
  rcases open_slice ht h with ⟨h0, _⟩ | ⟨a, len, cap, m, n, D, Pl, hcs, hb, hl, hm, hmm, _, hi⟩
  · simp only [List.cons.injEq, and_true] at h0
    subst h0
    exact ⟨[], .empty none 0 rfl, fun _ h => absurd h (by simp), Nat.zero_le _⟩
  · simp only [List.cons.injEq, and_true] at hcs
    subst hcs
    have hml : len ≤ m := by rw [hmm]; split <;> omega
    by_cases h0 : len = 0
    · subst h0
      exact ⟨[], .empty (some a) cap rfl, fun _ h => absurd h (by simp), Nat.zero_le _⟩
    · rw [hce] at hi
      obtain ⟨cs0, hc0, _⟩ := hi 0 (by omega)
      obtain ⟨hs, hbl⟩ := spot_of_cells (by omega) hc0
      obtain ⟨b, o, s⟩ := a
      have hs' : s = none := hs
      have hbl' : b < w.heap.size := hbl
      clear hs hbl hc0
      subst hs'
      have hp : ∀ i, i < len → ∃ p : Cl, ClAt w b (o + i * 2) p ∧ p.wf := by
        intro i hil
        obtain ⟨cs, hc, hx⟩ := hi i (by omega)
        rw [add_none] at hc
        exact Cl_of_cells hc (flat_ints 4 e _ n cs _ hfl hx)
      obtain ⟨F, hF⟩ : ∃ F : Nat → Cl, ∀ i, i < len → ClAt w b (o + i * 2) (F i) ∧ (F i).wf :=
        ⟨fun i => if h : i < len then Classical.choose (hp i h) else ⟨0, 0⟩, fun i h => by simp only [h, dite_true]; exact Classical.choose_spec (hp i h)⟩
      have hlen : ((List.range len).map F).length = len := by simp
      refine ⟨(List.range len).map F, ?_, ?_, by rw [hlen]; omega⟩
      · have := SlCl.mk (w := w) (l := (List.range len).map F) b o cap (fun i hi => by
          rw [hlen] at hi
          simp only [List.getElem_map, List.getElem_range]
          exact (hF i hi).1) hbl' (by rw [hlen]; exact hl)
        rwa [hlen] at this
      · intro p hp
        obtain ⟨i, hi, rfl⟩ := List.mem_map.1 hp
        exact (hF i (List.mem_range.1 hi)).2
theorem Cl_cells : Tryd.prog.cellsOf 41 = 2 := by kernel_rfl
set_option maxRecDepth 100000 in
theorem Cl_flat : flat Tryd.prog 4 41 = some [.i8, .i8] := by kernel_rfl
end Go.Proofs.YtmllfacgonchnaaDoor
