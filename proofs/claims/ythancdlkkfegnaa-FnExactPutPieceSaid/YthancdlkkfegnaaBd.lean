/- Contracts of the laws' own functions on boards: sizes and copies. -/
import Derived.Test.YthancdlkkfegnaaC1c
import Derived.OwnWalk
import Derived.Deep.OwnRows
import Derived.Outline
namespace Go.Proofs.Ythancdlkkfegnaa
open Go.ChangeShapes Go.WideShapes Go.ChangeAt Go.RowKit
set_option linter.unusedVariables false

/-- the cells from 'o' on are those of the pieces -/
def PcsAt (w : World) (b o : Nat) (l : List Pc) : Prop := ∀ i (h : i < l.length), PcAt w b (o + i * 5) l[i]
/-- a slice that holds the pieces -/
inductive Sl (w : World) (l : List Pc) : Value → Prop where
  | empty (a : Option Addr) (cap : Nat) (h : l = []) : Sl w l (.slice a 0 cap)
  | mk (b o cap : Nat) (hc : PcsAt w b o l) (hb : b < w.heap.size) (hl : l.length ≤ cap) : Sl w l (.slice (some ⟨b, o, none⟩) l.length cap)

theorem szPieceS_any (v : Value) (l : List Pc) (w : World) (h : Sl w l v) (left : Int) (hl : l.length ≤ 9223372036854775807) (h0 : 0 ≤ left) (h1 : left ≤ 1048576) :
    Calls Try.prog 65 #[v, .int .i64 left] w fun e w' => e = .returned (.int .i64 (if left - l.length < 0 then -1 else left - l.length)) ∧ w = w' := by
  have key : ∀ (a : Option Addr) (n cap : Nat), n ≤ 9223372036854775807 → Calls Try.prog 65 #[.slice a n cap, .int .i64 left] w fun e w' => e = .returned (.int .i64 (if left - n < 0 then -1 else left - n)) ∧ w = w' := by
    intro a n cap hn
    by_cases hlt : left - n < 0
    · rw [if_pos hlt]
      go_enter Try.func65, Try.ntmps65
      go_wp2
      go_ret
      exact ⟨rfl, rfl⟩
    · rw [if_neg hlt]
      go_enter Try.func65, Try.ntmps65
      go_wp2
      go_ret
      exact ⟨rfl, rfl⟩
  cases h with
  | empty a cap h => subst h; exact key a 0 cap (by decide)
  | mk b o cap hc hb hle => exact key _ _ _ hl

theorem info_pc : (Try.prog.info? 46).map (fun i => (i.zero, i.size, i.bytes)) = some (some (.agg #[.int .i8 0, .int .i8 0, .int .i8 0, .int .i8 0, .int .i8 0]), 5, 5) := by kernel_rfl
theorem PcsAt.set {w : World} {b o B j : Nat} {v : Value} {l : List Pc} (h : PcsAt w b o l) (hne : B ≠ b) : PcsAt (w.setCell ⟨B, j, none⟩ v) b o l := by
  intro i hi
  obtain ⟨h0, h1, h2, h3, h4⟩ := h i hi
  have ne : ∀ x : Nat, (⟨B, j, none⟩ : Addr) ≠ ⟨b, x, none⟩ := by intro x e; injection e with h1 _ _; exact hne h1
  exact ⟨by rw [World.cell?_setCell_other _ _ _ _ (ne _)]; exact h0, by rw [World.cell?_setCell_other _ _ _ _ (ne _)]; exact h1, by rw [World.cell?_setCell_other _ _ _ _ (ne _)]; exact h2, by rw [World.cell?_setCell_other _ _ _ _ (ne _)]; exact h3, by rw [World.cell?_setCell_other _ _ _ _ (ne _)]; exact h4⟩

/-- block B is a row of the call's own of n pieces, whose first k are those of 'l' -/
def Filled (w : World) (B n : Nat) (l : List Pc) (k : Nat) : Prop :=
  B < w.heap.size ∧ (∀ i (h : i < l.length), i < k → PcAt w B (0 + i * 5) l[i]) ∧ (∀ j, j < n * 5 → ∃ v, w.cell? ⟨B, j, none⟩ = some v) ∧ (∀ j, w.frozen? ⟨B, j, none⟩ = false)

theorem Filled.made {w w' : World} {n B : Nat} {l : List Pc} {e : TypeId} {v : Value} {xs : List Value} (h : w.ownsRow B e 5 (.slice (some ⟨B, 0, none⟩) n n) n xs) : Filled w B n l 0 := by
  refine ⟨(h.lt B rfl).2, fun i _ hi => absurd hi (by omega), fun j hj => ?_, fun j => h.frozenAt j⟩
  have hl : xs.length = n * 5 := h.1
  exact ⟨xs[j]'(by omega), by rw [h.cellAt j hj]; exact List.getElem?_eq_getElem (by omega)⟩

theorem Filled.below {w w' : World} {n B k : Nat} {l : List Pc} (h : Filled w B n l k) (hb : Below w.heap.size w w') : Filled w' B n l k := by
  obtain ⟨h1, h2, h3, h4⟩ := h
  refine ⟨Nat.lt_of_lt_of_le h1 hb.size, fun i hi hk => (h2 i hi hk).below hb h1, fun j hj => ?_, fun j => ?_⟩
  · rw [hb.cell (p := ⟨B, j, none⟩) h1]; exact h3 j hj
  · rw [hb.frozen (p := ⟨B, j, none⟩) h1]; exact h4 j

theorem cell_set {w : World} {B i j : Nat} {u v : Value} (h : w.cell? ⟨B, i, none⟩ = some u) : ∃ z, (w.setCell ⟨B, j, none⟩ v).cell? ⟨B, i, none⟩ = some z := by
  by_cases e : i = j
  · subst e; exact ⟨_, World.cell?_setCell_same _ _ _ h⟩
  · exact ⟨u, by rw [World.cell?_setCell_other _ _ _ _ (by intro h; injection h with _ h2 _; exact e h2.symm)]; exact h⟩

def World.set5 (w : World) (B o : Nat) (p : Pc) : World :=
  ((((w.setCell ⟨B, o, none⟩ (.int .i8 p.x)).setCell ⟨B, o + 1, none⟩ (.int .i8 p.y)).setCell ⟨B, o + 2, none⟩ (.int .i8 p.kind)).setCell ⟨B, o + 3, none⟩ (.int .i8 p.turn)).setCell ⟨B, o + 4, none⟩ (.int .i8 p.delay)

theorem set5_at {w : World} {B o : Nat} {p : Pc} (h : ∀ j, j < 5 → ∃ v, w.cell? ⟨B, o + j, none⟩ = some v) : PcAt (World.set5 w B o p) B o p := by
  obtain ⟨v0, h0⟩ := h 0 (by omega)
  rw [Nat.add_zero] at h0
  obtain ⟨v1, h1⟩ := h 1 (by omega)
  obtain ⟨v2, h2⟩ := h 2 (by omega)
  obtain ⟨v3, h3⟩ := h 3 (by omega)
  obtain ⟨v4, h4⟩ := h 4 (by omega)
  have ne : ∀ a b : Nat, a ≠ b → (⟨B, a, none⟩ : Addr) ≠ ⟨B, b, none⟩ := by intro a b hab e; injection e with _ h2 _; exact hab h2
  unfold World.set5 PcAt
  refine ⟨?_, ?_, ?_, ?_, ?_⟩
  · rw [World.cell?_setCell_other _ _ _ _ (ne _ _ (by omega)), World.cell?_setCell_other _ _ _ _ (ne _ _ (by omega)), World.cell?_setCell_other _ _ _ _ (ne _ _ (by omega)), World.cell?_setCell_other _ _ _ _ (ne _ _ (by omega)), World.cell?_setCell_same _ _ _ h0]
  · rw [World.cell?_setCell_other _ _ _ _ (ne _ _ (by omega)), World.cell?_setCell_other _ _ _ _ (ne _ _ (by omega)), World.cell?_setCell_other _ _ _ _ (ne _ _ (by omega)), World.cell?_setCell_same _ _ _ (by rw [World.cell?_setCell_other _ _ _ _ (ne _ _ (by omega))]; exact h1)]
  · rw [World.cell?_setCell_other _ _ _ _ (ne _ _ (by omega)), World.cell?_setCell_other _ _ _ _ (ne _ _ (by omega)), World.cell?_setCell_same _ _ _ (by rw [World.cell?_setCell_other _ _ _ _ (ne _ _ (by omega)), World.cell?_setCell_other _ _ _ _ (ne _ _ (by omega))]; exact h2)]
  · rw [World.cell?_setCell_other _ _ _ _ (ne _ _ (by omega)), World.cell?_setCell_same _ _ _ (by rw [World.cell?_setCell_other _ _ _ _ (ne _ _ (by omega)), World.cell?_setCell_other _ _ _ _ (ne _ _ (by omega)), World.cell?_setCell_other _ _ _ _ (ne _ _ (by omega))]; exact h3)]
  · rw [World.cell?_setCell_same _ _ _ (by rw [World.cell?_setCell_other _ _ _ _ (ne _ _ (by omega)), World.cell?_setCell_other _ _ _ _ (ne _ _ (by omega)), World.cell?_setCell_other _ _ _ _ (ne _ _ (by omega)), World.cell?_setCell_other _ _ _ _ (ne _ _ (by omega))]; exact h4)]

theorem set5_other {w : World} {B o : Nat} {p : Pc} {b i : Nat} (h : b ≠ B ∨ i < o ∨ o + 5 ≤ i) : (World.set5 w B o p).cell? ⟨b, i, none⟩ = w.cell? ⟨b, i, none⟩ := by
  have ne : ∀ a : Nat, (o ≤ a ∧ a < o + 5) → (⟨B, a, none⟩ : Addr) ≠ ⟨b, i, none⟩ := by intro a hab e; injection e with h1 h2 _; omega
  unfold World.set5
  rw [World.cell?_setCell_other _ _ _ _ (ne _ (by omega)), World.cell?_setCell_other _ _ _ _ (ne _ (by omega)), World.cell?_setCell_other _ _ _ _ (ne _ (by omega)), World.cell?_setCell_other _ _ _ _ (ne _ (by omega)), World.cell?_setCell_other _ _ _ _ (ne _ (by omega))]

theorem Filled.store {w : World} {B n k : Nat} {l : List Pc} {p : Pc} (h : Filled w B n l k) (hk : k < l.length) (hp : l[k] = p) (hkn : k < n) : Filled (World.set5 w B (k * 5) p) B n l (k + 1) := by
  obtain ⟨h1, h2, h3, h4⟩ := h
  refine ⟨by simpa [World.set5, World.size_setCell] using h1, fun i hi hik => ?_, fun j hj => ?_, fun j => ?_⟩
  · by_cases e : i = k
    · subst e
      rw [hp, Nat.zero_add]
      exact set5_at (fun j hj => h3 _ (by omega))
    · obtain ⟨a0, a1, a2, a3, a4⟩ := h2 i hi (by omega)
      exact ⟨by rw [set5_other (by omega)]; exact a0, by rw [set5_other (by omega)]; exact a1, by rw [set5_other (by omega)]; exact a2, by rw [set5_other (by omega)]; exact a3, by rw [set5_other (by omega)]; exact a4⟩
  · obtain ⟨v, hv⟩ := h3 j hj
    unfold World.set5
    obtain ⟨v1, h1⟩ := cell_set (j := k * 5) (v := .int .i8 p.x) hv
    obtain ⟨v2, h2⟩ := cell_set (j := k * 5 + 1) (v := .int .i8 p.y) h1
    obtain ⟨v3, h3⟩ := cell_set (j := k * 5 + 2) (v := .int .i8 p.kind) h2
    obtain ⟨v4, h4⟩ := cell_set (j := k * 5 + 3) (v := .int .i8 p.turn) h3
    exact cell_set (j := k * 5 + 4) (v := .int .i8 p.delay) h4
  · unfold World.set5
    simp only [World.frozen?_setCell]
    exact h4 j

theorem PcsAt.below {W w' : World} {b o : Nat} {l : List Pc} (h : PcsAt W b o l) (hb : Below W.heap.size W w') (hl : b < W.heap.size) : PcsAt w' b o l :=
  fun i hi => (h i hi).below hb hl

set_option maxHeartbeats 2000000 in
theorem toPieceS_some (b o n cap : Nat) (l : List Pc) (w : World) (hc : PcsAt w b o l) (hb : b < w.heap.size) (hn : l.length = n) (hcap : n ≤ cap) (hmax : n ≤ 1048576) :
    Calls Try.prog 67 #[.slice (some ⟨b, o, none⟩) n cap] w fun e w' => e = .returned (.slice (some ⟨w.heap.size, 0, none⟩) n n) ∧ PcsAt w' w.heap.size 0 l ∧ w.heap.size < w'.heap.size ∧ Below w.heap.size w w' := by
  obtain ⟨i0, hi, hz0, hz1, hz2⟩ := info_parts info_pc
  have Hn := Lib.hid hn
  clear hn
  go_enter Try.func67, Try.ntmps67
  go_wp2_with (refine wpList_make_full _ rfl _ _ 28 rfl w.heap.size 46 i0 _ 5 Try.underlying28 hi hz0 hz1 _ _ _ _ n rfl rfl rfl rfl ?c1 ?c2 ?c3 ?_)
  case c1 => rw [hz2]; omega
  case c2 => unfold maxLen; omega
  case c3 => exact Nat.le_refl _
  intro w1 hown hgr
  have hF : Filled w1 w.heap.size n l 0 := Filled.made (w' := w) (v := .int .i8 0) hown
  have hB : Below w.heap.size w w1 := (Below.refl _ _).grown hgr (Nat.le_refl _) (by intro k hk; cases hk)
  clear hown hgr hz0 hz1 hz2 hi i0
  go_wp2
  go_loopw [4] (fun i wr => ∃ k : Nat, k ≤ n ∧ i = .int .i64 k ∧ Filled wr w.heap.size n l k ∧ Below w.heap.size w wr) (fun i _ => n - (intOf i).toNat)
  case atStart => exact ⟨0, by omega, rfl, hF, hB⟩
  case round =>
    obtain ⟨k, hk, rfl, hf, hbr⟩ := hrel
    by_cases hlt : k < n
    · have hlk : k < l.length := by rw [Hn.out]; exact hlt
      have hpc := (hc.below hbr hb) k hlk
      generalize hpe : l[k] = p at hpc
      have Hp := Lib.hid hpe
      clear hpe
      obtain ⟨c0, c1, c2, c3, c4⟩ := hpc
      clear hc hF hB
      go_wp2_with fail
      refine (toPiece_any p _).mono ?_
      rintro e w2 ⟨rfl, hb2⟩
      have hf2 := hf.below hb2
      have hbr2 := kTrans hbr hb2
      obtain ⟨hs2, hd2, hx2, hz2⟩ := hf2
      obtain ⟨v0, d0⟩ := hx2 (k * 5) (by omega)
      obtain ⟨v1, d1⟩ := hx2 (k * 5 + 1) (by omega)
      obtain ⟨v2, d2⟩ := hx2 (k * 5 + 2) (by omega)
      obtain ⟨v3, d3⟩ := hx2 (k * 5 + 3) (by omega)
      obtain ⟨v4, d4⟩ := hx2 (k * 5 + 4) (by omega)
      have f0 := hz2 (k * 5)
      have f1 := hz2 (k * 5 + 1)
      have f2 := hz2 (k * 5 + 2)
      have f3 := hz2 (k * 5 + 3)
      have f4 := hz2 (k * 5 + 4)
      have HF := Lib.hid ((hf.below hb2).store hlk Hp.out hlt)
      have HB : Hid (Below w.heap.size w (World.set5 w2 w.heap.size (k * 5) p)) := Lib.hid (kSet (kSet (kSet (kSet (kSet hbr2 (Nat.le_refl _) _) (Nat.le_refl _) _) (Nat.le_refl _) _) (Nat.le_refl _) _) (Nat.le_refl _) _)
      clear hd2 hx2 hz2 hf hb2 hbr hbr2
      go_wp2
      exact ⟨⟨k + 1, by omega, by go_num, HF.out, HB.out⟩, by simp [intOf]; omega⟩
    · have e : k = n := by omega
      have H1 : Hid (PcsAt wr w.heap.size 0 l) := Lib.hid (fun i hi => hf.2.1 i hi (by rw [e, ← Hn.out]; exact hi))
      have H2 := hf.1
      clear e hf hF hB hc
      go_wp2
      go_ret
      exact ⟨rfl, H1.out, H2, hbr⟩

set_option maxHeartbeats 2000000 in
theorem toPieceS_empty (a : Option Addr) (cap : Nat) (w : World) :
    Calls Try.prog 67 #[.slice a 0 cap] w fun e w' => e = .returned (.slice (some ⟨w.heap.size, 0, none⟩) 0 0) ∧ w.heap.size < w'.heap.size ∧ Below w.heap.size w w' := by
  obtain ⟨i0, hi, hz0, hz1, hz2⟩ := info_parts info_pc
  go_enter Try.func67, Try.ntmps67
  go_wp2_with (refine wpList_make_full _ rfl _ _ 28 rfl w.heap.size 46 i0 _ 5 Try.underlying28 hi hz0 hz1 _ _ _ _ 0 rfl rfl rfl rfl ?c1 ?c2 ?c3 ?_)
  case c1 => rw [hz2]; omega
  case c2 => unfold maxLen; omega
  case c3 => exact Nat.le_refl _
  intro w1 hown hgr
  have hF : Filled w1 w.heap.size 0 [] 0 := Filled.made (w' := w) (v := .int .i8 0) hown
  have hB : Below w.heap.size w w1 := (Below.refl _ _).grown hgr (Nat.le_refl _) (by intro k hk; cases hk)
  have hs := hF.1
  clear hown hgr hz0 hz1 hz2 hi i0 hF
  go_wp2
  refine wp_loop_rounds 1 ?_
  rw [rounds_succ]
  go_wp2
  go_ret
  exact ⟨rfl, hs, hB⟩

/-- a copy of its own: a slice of a new block -/
theorem toPieceS_any (v : Value) (l : List Pc) (w : World) (h : Sl w l v) (hmax : l.length ≤ 1048576) :
    Calls Try.prog 67 #[v] w fun e w' => e = .returned (.slice (some ⟨w.heap.size, 0, none⟩) l.length l.length) ∧ PcsAt w' w.heap.size 0 l ∧ w.heap.size < w'.heap.size ∧ Below w.heap.size w w' := by
  cases h with
  | empty a cap h => subst h; exact (toPieceS_empty a cap w).mono fun e w' ⟨h1, h2, h3⟩ => ⟨h1, fun i hi => absurd hi (by simp), h2, h3⟩
  | mk b o cap hc hb hl => exact toPieceS_some b o _ cap l w hc hb rfl hl hmax
set_option maxHeartbeats 1000000 in
theorem szBoard_any (wd hi : Int) (v : Value) (l : List Pc) (w : World) (h : Sl w l v) (left : Int) (hl : l.length ≤ 9223372036854775807) (h0 : 0 ≤ left) (h1 : left ≤ 1048576) :
    Calls Try.prog 17 #[.agg #[.int .i8 wd, .int .i8 hi, v], .int .i64 left] w fun e w' => e = .returned (.int .i64 (if left - l.length < 0 then -1 else left - l.length)) ∧ Below w.heap.size w w' := by
  have h2 : Sl (w.alloc (.cells #[.int .i8 wd, .int .i8 hi, v] 25)) l v := by
    cases h with
    | empty a cap h => exact .empty a cap h
    | mk b o cap hc hb hl => exact .mk b o cap (hc.below (by repeat (first | with_reducible exact Below.refl _ _ | (with_reducible refine kSet ?_ ?hB _; case hB => (simp; try omega)) | with_reducible refine kAlloc ?_ _ | with_reducible refine Below.drew ?_ | with_reducible refine kDrewN ?_ _ | with_reducible refine kTrans ?_ (by assumption))) hb) (by simp; omega) hl
  have H := Lib.hid h2
  by_cases hlt : left - l.length < 0
  · rw [if_pos hlt]
    clear h h2
    go_enter Try.func17, Try.ntmps17
    go_wp2_with fail
    refine (szPieceS_any v l _ H.out left hl h0 h1).mono ?_
    rw [if_pos hlt]
    rintro e w1 ⟨rfl, rfl⟩
    go_wp2
    go_ret
    exact ⟨rfl, by repeat (first | with_reducible exact Below.refl _ _ | (with_reducible refine kSet ?_ ?hB _; case hB => (simp; try omega)) | with_reducible refine kAlloc ?_ _ | with_reducible refine Below.drew ?_ | with_reducible refine kDrewN ?_ _ | with_reducible refine kTrans ?_ (by assumption))⟩
  · rw [if_neg hlt]
    clear h h2
    go_enter Try.func17, Try.ntmps17
    go_wp2_with fail
    refine (szPieceS_any v l _ H.out left hl h0 h1).mono ?_
    rw [if_neg (by omega)]
    rintro e w1 ⟨rfl, rfl⟩
    go_wp2
    go_ret
    exact ⟨rfl, by repeat (first | with_reducible exact Below.refl _ _ | (with_reducible refine kSet ?_ ?hB _; case hB => (simp; try omega)) | with_reducible refine kAlloc ?_ _ | with_reducible refine Below.drew ?_ | with_reducible refine kDrewN ?_ _ | with_reducible refine kTrans ?_ (by assumption))⟩
set_option maxHeartbeats 1000000 in
theorem toBoard_any (wd hi : Int) (v : Value) (l : List Pc) (w : World) (h : Sl w l v) (hl : l.length ≤ 1048576) :
    Calls Try.prog 19 #[.agg #[.int .i8 wd, .int .i8 hi, v]] w fun e w' => ∃ b, e = .returned (.agg #[.int .i8 wd, .int .i8 hi, .slice (some ⟨b, 0, none⟩) l.length l.length]) ∧ w.heap.size ≤ b ∧ b < w'.heap.size ∧ PcsAt w' b 0 l ∧ Below w.heap.size w w' := by
  have h2 : ∀ w2, Below w.heap.size w w2 → Sl w2 l v := by
    intro w2 hb2
    cases h with
    | empty a cap h => exact .empty a cap h
    | mk b o cap hc hb hl => exact .mk b o cap (hc.below hb2 hb) (Nat.lt_of_lt_of_le hb hb2.size) hl
  have H := Lib.hid h2
  clear h2
  go_enter Try.func19, Try.ntmps19
  go_wp2_with fail
  refine (toPieceS_any v l _ (H.out _ (by repeat (first | with_reducible exact Below.refl _ _ | (with_reducible refine kSet ?_ ?hB _; case hB => (simp; try omega)) | with_reducible refine kAlloc ?_ _ | with_reducible refine Below.drew ?_ | with_reducible refine kDrewN ?_ _ | with_reducible refine kTrans ?_ (by assumption)))) hl).mono ?_
  rintro e w1 ⟨rfl, hp, hs, hb⟩
  simp only [World.size_alloc] at hp hs
  have hp' := Lib.hid hp
  clear hp
  obtain ⟨hc, hf⟩ := bcell hb
  have hz : w.heap.size + 1 + 1 + 1 ≤ w1.heap.size := by have := hb.size; simp at this; omega
  go_wp2
  exact bodyPost_ret (v := .agg #[.int .i8 wd, .int .i8 hi, .slice (some ⟨w.heap.size + 1 + 1 + 1, 0, none⟩) l.length l.length]) (by simp [results, Try.results19, go_sem, hc]) rfl ⟨_, rfl, by omega, by simp; omega, by repeat (first | exact hp'.out | refine PcsAt.set ?_ (by omega)), by repeat (first | with_reducible exact Below.refl _ _ | (with_reducible refine kSet ?_ ?hB _; case hB => (simp; try omega)) | with_reducible refine kAlloc ?_ _ | with_reducible refine Below.drew ?_ | with_reducible refine kDrewN ?_ _ | with_reducible refine kTrans ?_ (by assumption))⟩
end Go.Proofs.Ythancdlkkfegnaa
