/- The tail of the laws whose function hands a board back: what is kept from step to step; copies of arguments that are not frozen; equal boards, whatever their slices. -/
import Derived.Test.YthancdlkkfegnaaMk
namespace Go.Proofs.Ythancdlkkfegnaa
open Go.ChangeShapes Go.WideShapes Go.ChangeAt Go.RowKit
set_option linter.unusedVariables false

/-- a slice that came in: its block, if it has any, is below B -/
inductive SlO (B : Nat) (w : World) (l : List Pc) : Value → Prop where
  | empty (a : Option Addr) (cap : Nat) (h : l = []) : SlO B w l (.slice a 0 cap)
  | mk (b o cap : Nat) (hc : PcsAt w b o l) (hB : b < B) (hb : b < w.heap.size) (hl : l.length ≤ cap) : SlO B w l (.slice (some ⟨b, o, none⟩) l.length cap)
theorem SlO.sl {B : Nat} {w : World} {l : List Pc} {v : Value} (h : SlO B w l v) : Sl w l v := by
  cases h with
  | empty a cap h => exact .empty a cap h
  | mk b o cap hc _ hb hl => exact .mk b o cap hc hb hl
theorem SlO.start {w : World} {l : List Pc} {v : Value} (h : Sl w l v) : SlO w.heap.size w l v := by
  cases h with
  | empty a cap h => exact .empty a cap h
  | mk b o cap hc hb hl => exact .mk b o cap hc hb hb hl
theorem SlO.below {B : Nat} {w w' : World} {l : List Pc} {v : Value} (h : SlO B w l v) (g : Below w.heap.size w w') : SlO B w' l v := by
  cases h with
  | empty a cap h => exact .empty a cap h
  | mk b o cap hc hB hb hl => exact .mk b o cap (hc.below g hb) hB (Nat.lt_of_lt_of_le hb g.size) hl
theorem SlO.out {B lo hi : Nat} {w w' : World} {l : List Pc} {v : Value} (h : SlO B w l v) (g : KeptOut lo hi w w') (ho : B ≤ lo) : SlO B w' l v := by
  cases h with
  | empty a cap h => exact .empty a cap h
  | mk b o cap hc hB hb hl => exact .mk b o cap (hc.out g hb (Or.inl (by omega))) hB (Nat.lt_of_lt_of_le hb g.size) hl

/-- what the tail keeps: four boxes (the argument's, the model's answer, the copy that the program got, its answer), and their slices -/
structure Tail (wr : World) (a pw px pg wlo whi xlo xhi glo ghi : Nat) (ec : Nat → Option Value) (wd hi : Int) (s : Value) (l : List Pc) (wdr hir : Int) (sw sx sg : Value) (lr lx lg : List Pc) : Prop where
  ba : BdAt wr a 0 wd hi s
  be : ∀ j v, ec j = some v → wr.cell? ⟨a + 1, j, none⟩ = some v
  bw : BdAt wr pw 0 wdr hir sw
  bx : BdAt wr px 0 wd hi sx
  bg : BdAt wr pg 0 wdr hir sg
  ss : SlO a wr l s
  vw : SlW wlo whi wr lr sw
  vx : SlW xlo xhi wr lx sx
  vg : SlW glo ghi wr lg sg
  o1 : a + 1 < wlo
  o2 : wlo ≤ whi
  o3 : whi ≤ pw
  o4 : pw < xlo
  o5 : xlo ≤ xhi
  o6 : xhi ≤ px
  o7 : px < glo
  o8 : glo ≤ ghi
  o9 : ghi ≤ pg
  oz : pg < wr.heap.size
theorem Tail.below {wr w' : World} {a pw px pg wlo whi xlo xhi glo ghi : Nat} {ec : Nat → Option Value} {wd hi : Int} {s : Value} {l : List Pc} {wdr hir : Int} {sw sx sg : Value} {lr lx lg : List Pc}
    (h : Tail wr a pw px pg wlo whi xlo xhi glo ghi ec wd hi s l wdr hir sw sx sg lr lx lg) (g : Below wr.heap.size wr w') : Tail w' a pw px pg wlo whi xlo xhi glo ghi ec wd hi s l wdr hir sw sx sg lr lx lg := by
  obtain ⟨ba, be, bw, bx, bg, ss, vw, vx, vg, o1, o2, o3, o4, o5, o6, o7, o8, o9, oz⟩ := h
  exact ⟨ba.below g ba.lt, fun j v hv => (g.cell (p := ⟨a + 1, j, none⟩) (by simp; omega)).trans (be j v hv), bw.below g bw.lt, bx.below g bx.lt, bg.below g bg.lt, ss.below g, vw.below g, vx.below g, vg.below g, o1, o2, o3, o4, o5, o6, o7, o8, o9, Nat.lt_of_lt_of_le oz g.size⟩
theorem Tail.markX {wr w' : World} {a pw px pg wlo whi xlo xhi glo ghi : Nat} {ec : Nat → Option Value} {wd hi : Int} {s : Value} {l : List Pc} {wdr hir : Int} {sw sx sg : Value} {lr lx lg lx2 : List Pc}
    (h : Tail wr a pw px pg wlo whi xlo xhi glo ghi ec wd hi s l wdr hir sw sx sg lr lx lg) (hs : SlW xlo xhi w' lx2 sx) (g : KeptOut xlo xhi wr w') : Tail w' a pw px pg wlo whi xlo xhi glo ghi ec wd hi s l wdr hir sw sx sg lr lx2 lg := by
  obtain ⟨ba, be, bw, bx, bg, ss, vw, vx, vg, o1, o2, o3, o4, o5, o6, o7, o8, o9, oz⟩ := h
  exact ⟨ba.out g (by omega), fun j v hv => (g.cell (by omega) (by omega)).trans (be j v hv), bw.out g (by omega), bx.out g (by omega), bg.out g (by omega), ss.out g (by omega), vw.out g (by omega), hs, vg.out g (by omega), o1, o2, o3, o4, o5, o6, o7, o8, o9, Nat.lt_of_lt_of_le oz g.size⟩
theorem Tail.markG {wr w' : World} {a pw px pg wlo whi xlo xhi glo ghi : Nat} {ec : Nat → Option Value} {wd hi : Int} {s : Value} {l : List Pc} {wdr hir : Int} {sw sx sg : Value} {lr lx lg lg2 : List Pc}
    (h : Tail wr a pw px pg wlo whi xlo xhi glo ghi ec wd hi s l wdr hir sw sx sg lr lx lg) (hs : SlW glo ghi w' lg2 sg) (g : KeptOut glo ghi wr w') : Tail w' a pw px pg wlo whi xlo xhi glo ghi ec wd hi s l wdr hir sw sx sg lr lx lg2 := by
  obtain ⟨ba, be, bw, bx, bg, ss, vw, vx, vg, o1, o2, o3, o4, o5, o6, o7, o8, o9, oz⟩ := h
  exact ⟨ba.out g (by omega), fun j v hv => (g.cell (by omega) (by omega)).trans (be j v hv), bw.out g (by omega), bx.out g (by omega), bg.out g (by omega), ss.out g (by omega), vw.out g (by omega), vx.out g (by omega), hs, o1, o2, o3, o4, o5, o6, o7, o8, o9, Nat.lt_of_lt_of_le oz g.size⟩

set_option maxHeartbeats 1000000 in
theorem eqPieceS_none (a1 a2 : Option Addr) (c1 c2 : Nat) (w : World) :
    Calls Try.prog 69 #[.slice a1 0 c1, .slice a2 0 c2] w fun e w' => e = .returned (.bool true) ∧ Below w.heap.size w w' := by
  go_enter Try.func69, Try.ntmps69
  go_wp2
  refine wp_loop_rounds 1 ?_
  rw [rounds_succ]
  go_wp2
  go_ret
  exact ⟨rfl, Below.refl _ _⟩
theorem eqPieceS_any (v1 v2 : Value) (l : List Pc) (w : World) (h1 : Sl w l v1) (h2 : Sl w l v2) (h8 : All8 l) (hmax : l.length ≤ 1048576) :
    Calls Try.prog 69 #[v1, v2] w fun e w' => e = .returned (.bool true) ∧ Below w.heap.size w w' := by
  cases h1 with
  | empty a cap h =>
    subst h
    cases h2 with
    | empty a2 cap2 h => exact eqPieceS_none a a2 cap cap2 w
    | mk b o cap2 hc hb hl => exact eqPieceS_none a _ cap cap2 w
  | mk b o cap hc hb hl =>
    cases h2 with
    | empty a2 cap2 h => subst h; exact eqPieceS_none _ a2 cap cap2 w
    | mk b2 o2 cap2 hc2 hb2 hl2 => exact eqPieceS_same b o b2 o2 _ cap cap2 l w rfl hc hc2 hb hb2 h8 hl hl2 hmax
theorem Sl.below {w w' : World} {l : List Pc} {s : Value} (h : Sl w l s) (hb : Below w.heap.size w w') : Sl w' l s := by
  cases h with
  | empty a cap h => exact .empty a cap h
  | mk b o cap hc hbl hl => exact .mk b o cap (hc.below hb hbl) (Nat.lt_of_lt_of_le hbl hb.size) hl
set_option maxHeartbeats 1000000 in
theorem eqBoard_any (wd hi : Int) (v1 v2 : Value) (l : List Pc) (w : World) (h1 : Sl w l v1) (h2 : Sl w l v2) (h8 : All8 l) (hmax : l.length ≤ 1048576) :
    Calls Try.prog 21 #[.agg #[.int .i8 wd, .int .i8 hi, v1], .agg #[.int .i8 wd, .int .i8 hi, v2]] w fun e w' => e = .returned (.bool true) ∧ Below w.heap.size w w' := by
  have H := Lib.hid (fun w2 (hb : Below w.heap.size w w2) => eqPieceS_any v1 v2 l w2 (h1.below hb) (h2.below hb) h8 hmax)
  clear h1 h2 h8
  go_enter Try.func21, Try.ntmps21
  go_wp2_with fail
  refine (H.out _ (by repeat (first | with_reducible exact Below.refl _ _ | (with_reducible refine kSet ?_ ?hB _; case hB => (simp; try omega)) | with_reducible refine kAlloc ?_ _ | with_reducible refine Below.drew ?_ | with_reducible refine kDrewN ?_ _ | with_reducible refine kTrans ?_ (by assumption)))).mono ?_
  rintro e w1 ⟨rfl, hb⟩
  go_wp2
  go_ret
  exact ⟨rfl, by repeat (first | with_reducible exact Below.refl _ _ | (with_reducible refine kSet ?_ ?hB _; case hB => (simp; try omega)) | with_reducible refine kAlloc ?_ _ | with_reducible refine Below.drew ?_ | with_reducible refine kDrewN ?_ _ | with_reducible refine kTrans ?_ (by assumption))⟩
set_option maxHeartbeats 2000000 in
theorem toPieceS_own_some (b o n cap : Nat) (l : List Pc) (w : World) (hc : PcsAt w b o l) (hb : b < w.heap.size) (hn : l.length = n) (hcap : n ≤ cap) (hmax : n ≤ 1048576) :
    Calls Try.prog 67 #[.slice (some ⟨b, o, none⟩) n cap] w fun e w' => e = .returned (.slice (some ⟨w.heap.size, 0, none⟩) n n) ∧ PcsAt w' w.heap.size 0 l ∧ w.heap.size < w'.heap.size ∧ (∀ j, w'.frozen? ⟨w.heap.size, j, none⟩ = false) ∧ Below w.heap.size w w' := by
  obtain ⟨i0, hi, hz0, hz1, hz2⟩ := info_parts info_pc
  have Hn := Lib.hid hn
  clear hn
  go_enter Try.func67, Try.ntmps67
  go_wp2_with (refine wpList_make_full _ rfl _ _ 28 rfl w.heap.size 46 i0 _ 5 Try.underlying28 hi hz0 hz1 _ _ _ _ n rfl rfl rfl rfl ?c1 ?c2 ?c3 ?_)
  case c1 => rw [hz2]; omega
  case c2 => unfold maxLen; omega
  case c3 => exact Nat.le_refl _
  intro w1 hown hgr
  have hF : Filled w1 w.heap.size n l 0 := Filled.made (w' := w) (v := .int .i8 0) hown
  have hB : Below w.heap.size w w1 := (Below.refl _ _).grown hgr (Nat.le_refl _) (by intro k hk; cases hk)
  clear hown hgr hz0 hz1 hz2 hi i0
  go_wp2
  go_loopw [4] (fun i wr => ∃ k : Nat, k ≤ n ∧ i = .int .i64 k ∧ Filled wr w.heap.size n l k ∧ Below w.heap.size w wr) (fun i _ => n - (intOf i).toNat)
  case atStart => exact ⟨0, by omega, rfl, hF, hB⟩
  case round =>
    obtain ⟨k, hk, rfl, hf, hbr⟩ := hrel
    by_cases hlt : k < n
    · have hlk : k < l.length := by rw [Hn.out]; exact hlt
      have hpc := (hc.below hbr hb) k hlk
      generalize hpe : l[k] = p at hpc
      have Hp := Lib.hid hpe
      clear hpe
      obtain ⟨c0, c1, c2, c3, c4⟩ := hpc
      clear hc hF hB
      go_wp2_with fail
      refine (toPiece_any p _).mono ?_
      rintro e w2 ⟨rfl, hb2⟩
      have hf2 := hf.below hb2
      have hbr2 := kTrans hbr hb2
      obtain ⟨hs2, hd2, hx2, hz2⟩ := hf2
      obtain ⟨v0, d0⟩ := hx2 (k * 5) (by omega)
      obtain ⟨v1, d1⟩ := hx2 (k * 5 + 1) (by omega)
      obtain ⟨v2, d2⟩ := hx2 (k * 5 + 2) (by omega)
      obtain ⟨v3, d3⟩ := hx2 (k * 5 + 3) (by omega)
      obtain ⟨v4, d4⟩ := hx2 (k * 5 + 4) (by omega)
      have f0 := hz2 (k * 5)
      have f1 := hz2 (k * 5 + 1)
      have f2 := hz2 (k * 5 + 2)
      have f3 := hz2 (k * 5 + 3)
      have f4 := hz2 (k * 5 + 4)
      have HF := Lib.hid ((hf.below hb2).store hlk Hp.out hlt)
      have HB : Hid (Below w.heap.size w (World.set5 w2 w.heap.size (k * 5) p)) := Lib.hid (kSet (kSet (kSet (kSet (kSet hbr2 (Nat.le_refl _) _) (Nat.le_refl _) _) (Nat.le_refl _) _) (Nat.le_refl _) _) (Nat.le_refl _) _)
      clear hd2 hx2 hz2 hf hb2 hbr hbr2
      go_wp2
      exact ⟨⟨k + 1, by omega, by go_num, HF.out, HB.out⟩, by simp [intOf]; omega⟩
    · have e : k = n := by omega
      have H1 : Hid (PcsAt wr w.heap.size 0 l) := Lib.hid (fun i hi => hf.2.1 i hi (by rw [e, ← Hn.out]; exact hi))
      have H2 := hf.1
      have H3 : Hid (∀ j, wr.frozen? ⟨w.heap.size, j, none⟩ = false) := Lib.hid hf.2.2.2
      clear e hf hF hB hc
      go_wp2
      go_ret
      exact ⟨rfl, H1.out, H2, H3.out, hbr⟩
set_option maxHeartbeats 2000000 in
theorem toPieceS_own_none (a : Option Addr) (cap : Nat) (w : World) :
    Calls Try.prog 67 #[.slice a 0 cap] w fun e w' => e = .returned (.slice (some ⟨w.heap.size, 0, none⟩) 0 0) ∧ w.heap.size < w'.heap.size ∧ (∀ j, w'.frozen? ⟨w.heap.size, j, none⟩ = false) ∧ Below w.heap.size w w' := by
  obtain ⟨i0, hi, hz0, hz1, hz2⟩ := info_parts info_pc
  go_enter Try.func67, Try.ntmps67
  go_wp2_with (refine wpList_make_full _ rfl _ _ 28 rfl w.heap.size 46 i0 _ 5 Try.underlying28 hi hz0 hz1 _ _ _ _ 0 rfl rfl rfl rfl ?c1 ?c2 ?c3 ?_)
  case c1 => rw [hz2]; omega
  case c2 => unfold maxLen; omega
  case c3 => exact Nat.le_refl _
  intro w1 hown hgr
  have hF : Filled w1 w.heap.size 0 [] 0 := Filled.made (w' := w) (v := .int .i8 0) hown
  have hB : Below w.heap.size w w1 := (Below.refl _ _).grown hgr (Nat.le_refl _) (by intro k hk; cases hk)
  have hs := hF.1
  have H3 : Hid (∀ j, w1.frozen? ⟨w.heap.size, j, none⟩ = false) := Lib.hid hF.2.2.2
  clear hown hgr hz0 hz1 hz2 hi i0 hF
  go_wp2
  refine wp_loop_rounds 1 ?_
  rw [rounds_succ]
  go_wp2
  go_ret
  exact ⟨rfl, hs, H3.out, hB⟩
/-- a copy of its own, that may be written -/
theorem toPieceS_own (v : Value) (l : List Pc) (w : World) (h : Sl w l v) (hmax : l.length ≤ 1048576) :
    Calls Try.prog 67 #[v] w fun e w' => e = .returned (.slice (some ⟨w.heap.size, 0, none⟩) l.length l.length) ∧ PcsAt w' w.heap.size 0 l ∧ w.heap.size < w'.heap.size ∧ (∀ j, w'.frozen? ⟨w.heap.size, j, none⟩ = false) ∧ Below w.heap.size w w' := by
  cases h with
  | empty a cap h => subst h; exact (toPieceS_own_none a cap w).mono fun e w' ⟨h1, h2, h3, h4⟩ => ⟨h1, fun i hi => absurd hi (by simp), h2, h3, h4⟩
  | mk b o cap hc hb hl => exact toPieceS_own_some b o _ cap l w hc hb rfl hl hmax
theorem PcsAt.setB {w : World} {b o : Nat} {v : Value} {p : Addr} {l : List Pc} (h : PcsAt w b o l) (hne : p.block ≠ b) : PcsAt (w.setCell p v) b o l := by
  intro i hi
  obtain ⟨h0, h1, h2, h3, h4⟩ := h i hi
  have ne : ∀ x : Nat, p ≠ ⟨b, x, none⟩ := by intro x e; rw [e] at hne; exact hne rfl
  exact ⟨by rw [World.cell?_setCell_other _ _ _ _ (ne _)]; exact h0, by rw [World.cell?_setCell_other _ _ _ _ (ne _)]; exact h1, by rw [World.cell?_setCell_other _ _ _ _ (ne _)]; exact h2, by rw [World.cell?_setCell_other _ _ _ _ (ne _)]; exact h3, by rw [World.cell?_setCell_other _ _ _ _ (ne _)]; exact h4⟩
set_option maxHeartbeats 1000000 in
/-- the copy of a board, that may be written -/
theorem toBoard_own (wd hi : Int) (v : Value) (l : List Pc) (w : World) (h : Sl w l v) (hl : l.length ≤ 1048576) :
    Calls Try.prog 19 #[.agg #[.int .i8 wd, .int .i8 hi, v]] w fun e w' => ∃ b, e = .returned (.agg #[.int .i8 wd, .int .i8 hi, .slice (some ⟨b, 0, none⟩) l.length l.length]) ∧ SlW w.heap.size w'.heap.size w' l (.slice (some ⟨b, 0, none⟩) l.length l.length) ∧ b < w'.heap.size ∧ PcsAt w' b 0 l ∧ w.heap.size + 1 + 1 ≤ w'.heap.size ∧ Below w.heap.size w w' := by
  have H := Lib.hid (fun w2 (hb2 : Below w.heap.size w w2) => toPieceS_own v l w2 (h.below hb2) hl)
  clear h
  go_enter Try.func19, Try.ntmps19
  go_wp2_with fail
  refine (H.out _ (by repeat (first | with_reducible exact Below.refl _ _ | (with_reducible refine kSet ?_ ?hB _; case hB => (simp; try omega)) | with_reducible refine kAlloc ?_ _ | with_reducible refine Below.drew ?_ | with_reducible refine kDrewN ?_ _ | with_reducible refine kTrans ?_ (by assumption)))).mono ?_
  rintro e w1 ⟨rfl, hp, hs, hf, hb⟩
  simp only [World.size_alloc] at hp hs hf
  have hp' := Lib.hid hp
  have hf' := Lib.hid hf
  clear hp hf
  obtain ⟨hc, hfz⟩ := bcell hb
  have hz : w.heap.size + 1 + 1 + 1 ≤ w1.heap.size := by have := hb.size; simp at this; omega
  go_wp2
  refine bodyPost_ret (v := .agg #[.int .i8 wd, .int .i8 hi, .slice (some ⟨w.heap.size + 1 + 1 + 1, 0, none⟩) l.length l.length]) (by simp [results, Try.results19, go_sem, hc]) rfl ?_
  have hs' : w.heap.size + 1 + 1 + 1 < w1.heap.size := by simpa using hs
  refine ⟨_, rfl, .mk _ 0 _ ?_ (by omega) ?_ ?_ (fun j => ?_) (Nat.le_refl _), ?_, ?_, ?_, by repeat (first | with_reducible exact Below.refl _ _ | (with_reducible refine kSet ?_ ?hB _; case hB => (simp; try omega)) | with_reducible refine kAlloc ?_ _ | with_reducible refine Below.drew ?_ | with_reducible refine kDrewN ?_ _ | with_reducible refine kTrans ?_ (by assumption))⟩
  · repeat (first | exact hp'.out | refine PcsAt.setB ?_ (by simp))
  · simpa using hs'
  · simpa using hs'
  · simp only [World.frozen?_setCell]; exact hf'.out j
  · simpa using hs'
  · repeat (first | exact hp'.out | refine PcsAt.setB ?_ (by simp))
  · simp; omega
end Go.Proofs.Ythancdlkkfegnaa
