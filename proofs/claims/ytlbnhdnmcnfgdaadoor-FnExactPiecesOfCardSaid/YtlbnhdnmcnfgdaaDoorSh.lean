/- Slices of whole numbers: cells, slices in a window of blocks; the laws' own equality, marking, copies. -/
import Derived.Test.YtlbnhdnmcnfgdaaDoorG4
namespace Go.Proofs.YtlbnhdnmcnfgdaaDoor
open Go.ChangeShapes Go.WideShapes Go.ChangeAt Go.RowKit Go.Joins Go.Deep
set_option linter.unusedVariables false

def ShsAt (w : World) (b o : Nat) (l : List Int) : Prop := ∀ i (h : i < l.length), w.cell? ⟨b, o + i, none⟩ = some (.int .i16 l[i])
def ShsWf (l : List Int) : Prop := ∀ p ∈ l, (Lit.int .i16 p).wf = true
theorem ShsAt.below {W w' : World} {b o : Nat} {l : List Int} (h : ShsAt W b o l) (hb : Below W.heap.size W w') (hl : b < W.heap.size) : ShsAt w' b o l :=
  fun i hi => (hb.cell (p := ⟨b, o + i, none⟩) hl).trans (h i hi)
inductive SlSh (w : World) (l : List Int) : Value → Prop where
  | empty (a : Option Addr) (cap : Nat) (h : l = []) : SlSh w l (.slice a 0 cap)
  | mk (b o cap : Nat) (hc : ShsAt w b o l) (hb : b < w.heap.size) (hl : l.length ≤ cap) : SlSh w l (.slice (some ⟨b, o, none⟩) l.length cap)
theorem SlSh.below {w w' : World} {l : List Int} {s : Value} (h : SlSh w l s) (hb : Below w.heap.size w w') : SlSh w' l s := by
  cases h with
  | empty a cap h => exact .empty a cap h
  | mk b o cap hc hbl hl => exact .mk b o cap (hc.below hb hbl) (Nat.lt_of_lt_of_le hbl hb.size) hl
theorem ShsAt.out {lo hi : Nat} {w w' : World} {b o : Nat} {l : List Int} (h : ShsAt w b o l) (g : KeptOut lo hi w w') (hb : b < w.heap.size) (ho : b < lo ∨ hi ≤ b) : ShsAt w' b o l :=
  fun i hi' => (g.cell hb ho).trans (h i hi')
inductive SlWSh (lo hi : Nat) (w : World) (l : List Int) : Value → Prop where
  | empty (a : Option Addr) (cap : Nat) (h : l = []) : SlWSh lo hi w l (.slice a 0 cap)
  | mk (b o cap : Nat) (hc : ShsAt w b o l) (h1 : lo ≤ b) (h2 : b < hi) (hb : b < w.heap.size) (hf : ∀ j, w.frozen? ⟨b, j, none⟩ = false) (hl : l.length ≤ cap) : SlWSh lo hi w l (.slice (some ⟨b, o, none⟩) l.length cap)
theorem SlWSh.sl {lo hi : Nat} {w : World} {l : List Int} {v : Value} (h : SlWSh lo hi w l v) : SlSh w l v := by
  cases h with
  | empty a cap h => exact .empty a cap h
  | mk b o cap hc _ _ hb _ hl => exact .mk b o cap hc hb hl
theorem SlWSh.below {lo hi : Nat} {w w' : World} {l : List Int} {v : Value} (h : SlWSh lo hi w l v) (g : Below w.heap.size w w') : SlWSh lo hi w' l v := by
  cases h with
  | empty a cap h => exact .empty a cap h
  | mk b o cap hc h1 h2 hb hf hl => exact .mk b o cap (hc.below g hb) h1 h2 (Nat.lt_of_lt_of_le hb g.size) (fun j => (g.frozen (p := ⟨b, j, none⟩) hb).trans (hf j)) hl
theorem SlWSh.out {lo hi lo2 hi2 : Nat} {w w' : World} {l : List Int} {v : Value} (h : SlWSh lo hi w l v) (g : KeptOut lo2 hi2 w w') (ho : hi ≤ lo2 ∨ hi2 ≤ lo) : SlWSh lo hi w' l v := by
  cases h with
  | empty a cap h => exact .empty a cap h
  | mk b o cap hc h1 h2 hb hf hl => exact .mk b o cap (hc.out g hb (by omega)) h1 h2 (Nat.lt_of_lt_of_le hb g.size) (fun j => (g.frozen hb (by omega)).trans (hf j)) hl
theorem SlWSh.mono {lo hi lo2 hi2 : Nat} {w : World} {l : List Int} {v : Value} (h : SlWSh lo hi w l v) (h1 : lo2 ≤ lo) (h2 : hi ≤ hi2) : SlWSh lo2 hi2 w l v := by
  cases h with
  | empty a cap h => exact .empty a cap h
  | mk b o cap hc h1 h2 hb hf hl => exact .mk b o cap hc (by omega) (by omega) hb hf hl
theorem SlWSh.form {lo hi : Nat} {w : World} {l : List Int} {v : Value} (h : SlWSh lo hi w l v) : ∃ a c, v = .slice a l.length c := by
  cases h with
  | empty a cap h => exact ⟨a, cap, by rw [h]; rfl⟩
  | mk b o cap _ _ _ _ _ _ => exact ⟨_, cap, rfl⟩
inductive SlOSh (B : Nat) (w : World) (l : List Int) : Value → Prop where
  | empty (a : Option Addr) (cap : Nat) (h : l = []) : SlOSh B w l (.slice a 0 cap)
  | mk (b o cap : Nat) (hc : ShsAt w b o l) (hB : b < B) (hb : b < w.heap.size) (hl : l.length ≤ cap) : SlOSh B w l (.slice (some ⟨b, o, none⟩) l.length cap)
theorem SlOSh.sl {B : Nat} {w : World} {l : List Int} {v : Value} (h : SlOSh B w l v) : SlSh w l v := by
  cases h with
  | empty a cap h => exact .empty a cap h
  | mk b o cap hc _ hb hl => exact .mk b o cap hc hb hl
theorem SlOSh.start {w : World} {l : List Int} {v : Value} (h : SlSh w l v) : SlOSh w.heap.size w l v := by
  cases h with
  | empty a cap h => exact .empty a cap h
  | mk b o cap hc hb hl => exact .mk b o cap hc hb hb hl
theorem SlOSh.below {B : Nat} {w w' : World} {l : List Int} {v : Value} (h : SlOSh B w l v) (g : Below w.heap.size w w') : SlOSh B w' l v := by
  cases h with
  | empty a cap h => exact .empty a cap h
  | mk b o cap hc hB hb hl => exact .mk b o cap (hc.below g hb) hB (Nat.lt_of_lt_of_le hb g.size) hl
theorem SlOSh.out {B lo hi : Nat} {w w' : World} {l : List Int} {v : Value} (h : SlOSh B w l v) (g : KeptOut lo hi w w') (ho : B ≤ lo) : SlOSh B w' l v := by
  cases h with
  | empty a cap h => exact .empty a cap h
  | mk b o cap hc hB hb hl => exact .mk b o cap (hc.out g hb (Or.inl (by omega))) hB (Nat.lt_of_lt_of_le hb g.size) hl

def flatSh (l : List Int) : List Value := l.map fun x => .int .i16 x
theorem flatSh_length (l : List Int) : (flatSh l).length = l.length := by simp [flatSh]
theorem flatSh_one (l : List Int) : ∀ u ∈ flatSh l, u.oneCell' = true := by
  intro u hu
  obtain ⟨p, _, rfl⟩ := List.mem_map.1 hu
  rfl
theorem flatSh_end (l : List Int) (p : Int) : flatSh (l ++ [p]) = flatSh l ++ [.int .i16 p] := by simp [flatSh]
theorem SlWSh.of_owns {w : World} {base : Nat} {e : TypeId} {v : Value} {n : Nat} {l : List Int} (h : w.ownsRow base e 1 v n (flatSh l)) : SlWSh base w.heap.size w l v := by
  obtain ⟨hl, h | ⟨g, cap, cur, rfl, hb, hg, hn, hm, hs, ht⟩⟩ := h
  · obtain ⟨rfl, rfl⟩ := h
    rw [flatSh_length] at hl
    exact .empty none 0 (List.length_eq_zero_iff.1 (by omega))
  · rw [flatSh_length] at hl
    obtain rfl : n = l.length := by omega
    have hlt : g < w.heap.size := (Array.getElem?_eq_some_iff.1 hg).1
    refine .mk g 0 cap (fun i hi => ?_) hb hlt hlt (fun j => frozen_of_row w _ j _ _ hg) hn
    have hjs : i < cur.toList.length := by rw [Array.length_toList, hs]; omega
    have h2 : w.cell? ⟨g, i, none⟩ = (flatSh l)[i]? := by
      rw [← ht, List.getElem?_take_of_lt (by omega), List.getElem?_eq_getElem hjs]
      exact (cell_of_row w g i cur e _ hg).trans (by simp)
    rw [Nat.zero_add, h2]
    simp [flatSh, List.getElem?_eq_getElem hi]
/-- block B holds n numbers from o on, whose first k are those of 'l' -/
def FilledSh (w : World) (B o n : Nat) (l : List Int) (k : Nat) : Prop :=
  B < w.heap.size ∧ (∀ i (h : i < l.length), i < k → w.cell? ⟨B, o + i, none⟩ = some (.int .i16 l[i])) ∧ (∀ j, j < n → ∃ v, w.cell? ⟨B, o + j, none⟩ = some v) ∧ (∀ j, w.frozen? ⟨B, j, none⟩ = false)
theorem FilledSh.start {w : World} {B o : Nat} {l0 l : List Int} (h : ShsAt w B o l0) (hb : B < w.heap.size) (hf : ∀ j, w.frozen? ⟨B, j, none⟩ = false) : FilledSh w B o l0.length l 0 :=
  ⟨hb, fun i _ hi => absurd hi (by omega), fun j hj => ⟨_, h j hj⟩, hf⟩
theorem FilledSh.made {w w' : World} {n B : Nat} {l : List Int} {e : TypeId} {v : Value} {xs : List Value} (h : w.ownsRow B e 1 (.slice (some ⟨B, 0, none⟩) n n) n xs) : FilledSh w B 0 n l 0 := by
  refine ⟨(h.lt B rfl).2, fun i _ hi => absurd hi (by omega), fun j hj => ?_, fun j => h.frozenAt j⟩
  have hl : xs.length = n * 1 := h.1
  exact ⟨xs[j]'(by omega), by rw [Nat.zero_add, h.cellAt j (by omega)]; exact List.getElem?_eq_getElem (by omega)⟩
theorem FilledSh.below {w w' : World} {n B o k : Nat} {l : List Int} (h : FilledSh w B o n l k) (hb : Below w.heap.size w w') : FilledSh w' B o n l k := by
  obtain ⟨h1, h2, h3, h4⟩ := h
  refine ⟨Nat.lt_of_lt_of_le h1 hb.size, fun i hi hk => ?_, fun j hj => ?_, fun j => ?_⟩
  · rw [hb.cell (p := ⟨B, o + i, none⟩) h1]; exact h2 i hi hk
  · rw [hb.cell (p := ⟨B, o + j, none⟩) h1]; exact h3 j hj
  · rw [hb.frozen (p := ⟨B, j, none⟩) h1]; exact h4 j
theorem FilledSh.store {w : World} {B o n k : Nat} {l : List Int} {p : Int} (h : FilledSh w B o n l k) (hk : k < l.length) (hp : l[k] = p) (hkn : k < n) : FilledSh (w.setCell ⟨B, o + k, none⟩ (.int .i16 p)) B o n l (k + 1) := by
  obtain ⟨h1, h2, h3, h4⟩ := h
  have ne : ∀ i : Nat, i ≠ k → (⟨B, o + k, none⟩ : Addr) ≠ ⟨B, o + i, none⟩ := by intro i hi e; injection e with _ h _; omega
  refine ⟨by simpa [World.size_setCell] using h1, fun i hi hik => ?_, fun j hj => ?_, fun j => by rw [World.frozen?_setCell]; exact h4 j⟩
  · by_cases e : i = k
    · subst e
      obtain ⟨v, hv⟩ := h3 i hkn
      rw [hp, World.cell?_setCell_same _ _ _ hv]
    · rw [World.cell?_setCell_other _ _ _ _ (ne i e)]; exact h2 i hi (by omega)
  · by_cases e : j = k
    · subst e
      obtain ⟨v, hv⟩ := h3 j hj
      exact ⟨_, World.cell?_setCell_same _ _ _ hv⟩
    · rw [World.cell?_setCell_other _ _ _ _ (ne j e)]; exact h3 j hj
def marksSh (k : Int) (n : Nat) : List Int := (List.range n).map fun i : Nat => IntKind.i16.wrap (k + (i : Int))
theorem marksSh_length (k : Int) (n : Nat) : (marksSh k n).length = n := by simp [marksSh]
theorem marksSh_get (k : Int) (n i : Nat) (h : i < (marksSh k n).length) : (marksSh k n)[i] = IntKind.i16.wrap (k + (i : Int)) := by simp [marksSh]
set_option maxRecDepth 100000 in
set_option maxHeartbeats 2000000 in
theorem eqInt16S_mk (b1 o1 b2 o2 n c1 c2 : Nat) (l : List Int) (w : World) (hn : l.length = n) (h1 : ShsAt w b1 o1 l) (h2 : ShsAt w b2 o2 l) (hb1 : b1 < w.heap.size) (hb2 : b2 < w.heap.size) (hc1 : n ≤ c1) (hc2 : n ≤ c2) (hmax : n ≤ 1048576) :
    Calls Tryd.prog 22 #[.slice (some ⟨b1, o1, none⟩) n c1, .slice (some ⟨b2, o2, none⟩) n c2] w fun e w' => e = .returned (.bool true) ∧ Below w.heap.size w w' := by
  have Hn := Lib.hid hn
  clear hn
  go_enter Tryd.func22, Tryd.ntmps22
  go_wp2
  go_loopw [5] (fun i wr => ∃ k : Nat, k ≤ n ∧ i = .int .i64 k ∧ Below w.heap.size w wr) (fun i _ => n - (intOf i).toNat)
  case atStart => exact ⟨0, by omega, rfl, Below.refl _ _⟩
  case round =>
    obtain ⟨k, hk, rfl, hbr⟩ := hrel
    by_cases hlt : k < n
    · have hlk : k < l.length := by rw [Hn.out]; exact hlt
      have hp1 := (h1.below hbr hb1) k hlk
      have hp2 := (h2.below hbr hb2) k hlk
      generalize hpe : l[k] = p at hp1 hp2
      clear h1 h2 hpe
      go_wp2
      go_quiet (fail)
      go_wp2
      exact ⟨⟨k + 1, by omega, by go_num, kDrewN hbr _⟩, by simp [intOf]; omega⟩
    · clear h1 h2
      go_wp2
      go_ret
      exact ⟨rfl, hbr⟩
set_option maxHeartbeats 1000000 in
theorem eqInt16S_empty (a1 a2 : Option Addr) (c1 c2 : Nat) (w : World) :
    Calls Tryd.prog 22 #[.slice a1 0 c1, .slice a2 0 c2] w fun e w' => e = .returned (.bool true) ∧ Below w.heap.size w w' := by
  go_enter Tryd.func22, Tryd.ntmps22
  go_wp2
  refine wp_loop_rounds 1 ?_
  rw [rounds_succ]
  go_wp2
  go_ret
  exact ⟨rfl, Below.refl _ _⟩
theorem eqInt16S_any (v1 v2 : Value) (l : List Int) (w : World) (h1 : SlSh w l v1) (h2 : SlSh w l v2) (h8 : ShsWf l) (hmax : l.length ≤ 1048576) :
    Calls Tryd.prog 22 #[v1, v2] w fun e w' => e = .returned (.bool true) ∧ Below w.heap.size w w' := by
  cases h1 with
  | empty a cap h =>
    subst h
    cases h2 with
    | empty a2 cap2 h => exact eqInt16S_empty a a2 cap cap2 w
    | mk b o cap2 hc hb hl => exact eqInt16S_empty a _ cap cap2 w
  | mk b o cap hc hb hl =>
    cases h2 with
    | empty a2 cap2 h => subst h; exact eqInt16S_empty _ a2 cap cap2 w
    | mk b2 o2 cap2 hc2 hb2 hl2 => exact eqInt16S_mk b o b2 o2 _ cap cap2 l w rfl hc hc2 hb hb2 hl hl2 hmax
theorem info_i16n : (Tryd.prog.info? 46).map (fun i => (i.zero, i.size, i.bytes)) = some (some (.int .i16 0), 1, 2) := by kernel_rfl
set_option maxRecDepth 100000 in
set_option maxHeartbeats 2000000 in
theorem toInt16S_some (b o n cap : Nat) (l : List Int) (w : World) (hc : ShsAt w b o l) (hb : b < w.heap.size) (hn : l.length = n) (hcap : n ≤ cap) (hmax : n ≤ 1048576) :
    Calls Tryd.prog 19 #[.slice (some ⟨b, o, none⟩) n cap] w fun e w' => e = .returned (.slice (some ⟨w.heap.size, 0, none⟩) n n) ∧ ShsAt w' w.heap.size 0 l ∧ w.heap.size < w'.heap.size ∧ (∀ j, w'.frozen? ⟨w.heap.size, j, none⟩ = false) ∧ Below w.heap.size w w' := by
  have Hn := Lib.hid hn
  clear hn
  obtain ⟨i0, hi, hz0, hz1, hz2⟩ := info_parts info_i16n
  go_enter Tryd.func19, Tryd.ntmps19
  go_wp2_with (refine wpList_make_full _ rfl _ _ 24 rfl w.heap.size 46 i0 _ 1 Tryd.underlying24 hi hz0 hz1 _ _ _ _ n rfl rfl rfl rfl ?c1 ?c2 ?c3 ?_)
  case c1 => rw [hz2]; omega
  case c2 => unfold maxLen; omega
  case c3 => exact Nat.le_refl _
  intro w1 hown hgr
  have hF : FilledSh w1 w.heap.size 0 n l 0 := FilledSh.made (w' := w) (v := .int .i16 0) hown
  have hB : Below w.heap.size w w1 := (Below.refl _ _).grown hgr (Nat.le_refl _) (by intro k hk; cases hk)
  clear hown hgr hz0 hz1 hz2 hi i0
  go_wp2
  go_loopw [4] (fun i wr => ∃ k : Nat, k ≤ n ∧ i = .int .i64 k ∧ FilledSh wr w.heap.size 0 n l k ∧ Below w.heap.size w wr) (fun i _ => n - (intOf i).toNat)
  case atStart => exact ⟨0, by omega, rfl, hF, hB⟩
  case round =>
    obtain ⟨k, hk, rfl, hf, hbr⟩ := hrel
    by_cases hlt : k < n
    · have hlk : k < l.length := by rw [Hn.out]; exact hlt
      have hpc := (hc.below hbr hb) k hlk
      generalize hpe : l[k] = p at hpc
      have Hp := Lib.hid hpe
      obtain ⟨hs2, hd2, hx2, hz2⟩ := id hf
      obtain ⟨v0, d0⟩ := hx2 k (by omega)
      have f0 := hz2 k
      have HF := Lib.hid (hf.store hlk Hp.out hlt)
      simp only [Nat.zero_add] at d0 HF
      have HB : Hid (Below w.heap.size w (wr.setCell ⟨w.heap.size, k, none⟩ (.int .i16 p))) := Lib.hid (kSet hbr (Nat.le_refl _) _)
      clear hd2 hx2 hz2 hf hbr hpe hc hF hB
      go_wp2
      exact ⟨⟨k + 1, by omega, by go_num, HF.out, HB.out⟩, by simp [intOf]; omega⟩
    · have e : k = n := by omega
      have H1 : Hid (ShsAt wr w.heap.size 0 l) := Lib.hid (fun i hi => hf.2.1 i hi (by rw [e, ← Hn.out]; exact hi))
      have H2 := hf.1
      have H3 : Hid (∀ j, wr.frozen? ⟨w.heap.size, j, none⟩ = false) := Lib.hid hf.2.2.2
      clear e hf hF hB hc
      go_wp2
      go_ret
      exact ⟨rfl, H1.out, H2, H3.out, hbr⟩
set_option maxRecDepth 100000 in
set_option maxHeartbeats 2000000 in
theorem toInt16S_empty (a : Option Addr) (cap : Nat) (w : World) :
    Calls Tryd.prog 19 #[.slice a 0 cap] w fun e w' => e = .returned (.slice (some ⟨w.heap.size, 0, none⟩) 0 0) ∧ w.heap.size < w'.heap.size ∧ (∀ j, w'.frozen? ⟨w.heap.size, j, none⟩ = false) ∧ Below w.heap.size w w' := by
  obtain ⟨i0, hi, hz0, hz1, hz2⟩ := info_parts info_i16n
  go_enter Tryd.func19, Tryd.ntmps19
  go_wp2_with (refine wpList_make_full _ rfl _ _ 24 rfl w.heap.size 46 i0 _ 1 Tryd.underlying24 hi hz0 hz1 _ _ _ _ 0 rfl rfl rfl rfl ?c1 ?c2 ?c3 ?_)
  case c1 => rw [hz2]; omega
  case c2 => unfold maxLen; omega
  case c3 => exact Nat.le_refl _
  intro w1 hown hgr
  have hF : FilledSh w1 w.heap.size 0 0 [] 0 := FilledSh.made (w' := w) (v := .int .i16 0) hown
  have hB : Below w.heap.size w w1 := (Below.refl _ _).grown hgr (Nat.le_refl _) (by intro k hk; cases hk)
  have hs := hF.1
  have H3 : Hid (∀ j, w1.frozen? ⟨w.heap.size, j, none⟩ = false) := Lib.hid hF.2.2.2
  clear hown hgr hz0 hz1 hz2 hi i0 hF
  go_wp2
  refine wp_loop_rounds 1 ?_
  rw [rounds_succ]
  go_wp2
  go_ret
  exact ⟨rfl, hs, H3.out, hB⟩
theorem toInt16S_any (v : Value) (l : List Int) (w : World) (h : SlSh w l v) (hmax : l.length ≤ 1048576) :
    Calls Tryd.prog 19 #[v] w fun e w' => e = .returned (.slice (some ⟨w.heap.size, 0, none⟩) l.length l.length) ∧ ShsAt w' w.heap.size 0 l ∧ w.heap.size < w'.heap.size ∧ (∀ j, w'.frozen? ⟨w.heap.size, j, none⟩ = false) ∧ Below w.heap.size w w' := by
  cases h with
  | empty a cap h => subst h; exact (toInt16S_empty a cap w).mono fun e w' ⟨h1, h2, h3, h4⟩ => ⟨h1, fun i hi => absurd hi (by simp), h2, h3, h4⟩
  | mk b o cap hc hb hl => exact toInt16S_some b o _ cap l w hc hb rfl hl hmax
theorem intsSh_list {cs : List Value} {k0 : IntKind} (h : Ints cs [k0]) : ∃ u0 : Int, cs = [.int k0 u0] ∧ (Lit.int k0 u0).wf = true := by
  match cs, h with
  | [_], ⟨⟨x0, rfl, h0⟩, _⟩ => exact ⟨x0, rfl, h0⟩
theorem Sh_of_cells {w : World} {base b o : Nat} {cs : List Value} (h : w.cells? base ⟨b, o, none⟩ 1 = some cs) (hi : Ints cs [.i16]) : ∃ p : Int, w.cell? ⟨b, o, none⟩ = some (.int .i16 p) ∧ (Lit.int .i16 p).wf = true := by
  obtain ⟨x0, rfl, h0⟩ := intsSh_list hi
  obtain ⟨_, _, hc⟩ := World.cells?_some h
  have e0 := hc 0 (by omega)
  rw [add_none] at e0
  exact ⟨x0, e0, h0⟩
theorem open_Shs {H : Type} {enc : TypeId × Value → H} {P : Program} {w : World} {base : Nat} {spare : Nat → Bool} {held : Bool} {t e : TypeId} {fuel : Nat} {v : Value} {x : DataW H × List MemPlace}
    (ht : P.underlying t = some (.slice e)) (hce : P.cellsOf e = 1) (hfl : flat P 4 e = some [.i16]) (h : DataW.trod enc P w base spare held fuel t [v] = some x) :
    ∃ l : List Int, SlSh w l v ∧ ShsWf l ∧ l.length ≤ maxLen := by
  rcases open_slice ht h with ⟨h0, _⟩ | ⟨a, len, cap, m, n, D, Pl, hcs, hb, hl, hm, hmm, _, hi⟩
  · simp only [List.cons.injEq, and_true] at h0
    subst h0
    exact ⟨[], .empty none 0 rfl, fun _ h => absurd h (by simp), Nat.zero_le _⟩
  · simp only [List.cons.injEq, and_true] at hcs
    subst hcs
    have hml : len ≤ m := by rw [hmm]; split <;> omega
    by_cases h0 : len = 0
    · subst h0
      exact ⟨[], .empty (some a) cap rfl, fun _ h => absurd h (by simp), Nat.zero_le _⟩
    · rw [hce] at hi
      obtain ⟨cs0, hc0, _⟩ := hi 0 (by omega)
      obtain ⟨hs, hbl⟩ := spot_of_cells (by omega) hc0
      obtain ⟨b, o, s⟩ := a
      have hs' : s = none := hs
      have hbl' : b < w.heap.size := hbl
      clear hs hbl hc0
      subst hs'
      have hp : ∀ i, i < len → ∃ p : Int, w.cell? ⟨b, o + i * 1, none⟩ = some (.int .i16 p) ∧ (Lit.int .i16 p).wf = true := by
        intro i hil
        obtain ⟨cs, hc, hx⟩ := hi i (by omega)
        rw [add_none] at hc
        exact Sh_of_cells hc (flat_ints 4 e _ n cs _ hfl hx)
      obtain ⟨F, hF⟩ : ∃ F : Nat → Int, ∀ i, i < len → w.cell? ⟨b, o + i * 1, none⟩ = some (.int .i16 (F i)) ∧ (Lit.int .i16 (F i)).wf = true :=
        ⟨fun i => if h : i < len then Classical.choose (hp i h) else 0, fun i h => by simp only [h, dite_true]; exact Classical.choose_spec (hp i h)⟩
      have hlen : ((List.range len).map F).length = len := by simp
      refine ⟨(List.range len).map F, ?_, ?_, by rw [hlen]; omega⟩
      · have := SlSh.mk (w := w) (l := (List.range len).map F) b o cap (fun i hi => by
          rw [hlen] at hi
          simp only [List.getElem_map, List.getElem_range]
          have := (hF i hi).1; rw [Nat.mul_one] at this; exact this) hbl' (by rw [hlen]; exact hl)
        rwa [hlen] at this
      · intro p hp
        obtain ⟨i, hi, rfl⟩ := List.mem_map.1 hp
        exact (hF i (List.mem_range.1 hi)).2
theorem SlSh.len {w : World} {l : List Int} {a : Option Addr} {n c : Nat} (h : SlSh w l (.slice a n c)) : n = l.length := by
  cases h with
  | empty a cap h => rw [h]; rfl
  | mk b o cap _ _ _ => rfl
theorem Sh_cells : Tryd.prog.cellsOf 46 = 1 := by kernel_rfl
set_option maxRecDepth 100000 in
theorem Sh_flat : flat Tryd.prog 4 46 = some [.i16] := by kernel_rfl
theorem szInt16S_any (v : Value) (l : List Int) (w : World) (h : SlSh w l v) (left : Int) (hl : l.length ≤ 9223372036854775807) (h0 : 0 ≤ left) (h1 : left ≤ 1048576) :
    Calls Tryd.prog 16 #[v, .int .i64 left] w fun e w' => e = .returned (.int .i64 (if left - l.length < 0 then -1 else left - l.length)) ∧ w = w' := by
  have key : ∀ (a : Option Addr) (n cap : Nat), n ≤ 9223372036854775807 → Calls Tryd.prog 16 #[.slice a n cap, .int .i64 left] w fun e w' => e = .returned (.int .i64 (if left - n < 0 then -1 else left - n)) ∧ w = w' := by
    intro a n cap hn
    by_cases hlt : left - n < 0
    · rw [if_pos hlt]
      go_enter Tryd.func16, Tryd.ntmps16
      go_wp2
      go_ret
      exact ⟨rfl, rfl⟩
    · rw [if_neg hlt]
      go_enter Tryd.func16, Tryd.ntmps16
      go_wp2
      go_ret
      exact ⟨rfl, rfl⟩
  cases h with
  | empty a cap h => subst h; exact key a 0 cap (by decide)
  | mk b o cap hc hb hle => exact key _ _ _ hl
end Go.Proofs.YtlbnhdnmcnfgdaaDoor
