/- Several texts in one: Bs, Mn. -/
import Derived.Test.YtcafoppnnlfmmaaGreatDoorG4
import Derived.Test.YtcafoppnnlfmmaaGreatDoorRo
/- Slices of truths: cells, slices in a window of blocks; the laws' own equality, marking, copies. -/
namespace Go.Proofs.YtcafoppnnlfmmaaGreatDoor
open Go.ChangeShapes Go.WideShapes Go.ChangeAt Go.RowKit Go.Joins Go.Deep
set_option linter.unusedVariables false

def BssAt (w : World) (b o : Nat) (l : List Bool) : Prop := ∀ i (h : i < l.length), w.cell? ⟨b, o + i, none⟩ = some (.bool l[i])
def BssWf (l : List Bool) : Prop := ∀ p ∈ l, p = p
theorem BssAt.below {W w' : World} {b o : Nat} {l : List Bool} (h : BssAt W b o l) (hb : Below W.heap.size W w') (hl : b < W.heap.size) : BssAt w' b o l :=
  fun i hi => (hb.cell (p := ⟨b, o + i, none⟩) hl).trans (h i hi)
inductive SlBs (w : World) (l : List Bool) : Value → Prop where
  | empty (a : Option Addr) (cap : Nat) (h : l = []) : SlBs w l (.slice a 0 cap)
  | mk (b o cap : Nat) (hc : BssAt w b o l) (hb : b < w.heap.size) (hl : l.length ≤ cap) : SlBs w l (.slice (some ⟨b, o, none⟩) l.length cap)
theorem SlBs.below {w w' : World} {l : List Bool} {s : Value} (h : SlBs w l s) (hb : Below w.heap.size w w') : SlBs w' l s := by
  cases h with
  | empty a cap h => exact .empty a cap h
  | mk b o cap hc hbl hl => exact .mk b o cap (hc.below hb hbl) (Nat.lt_of_lt_of_le hbl hb.size) hl
theorem BssAt.out {lo hi : Nat} {w w' : World} {b o : Nat} {l : List Bool} (h : BssAt w b o l) (g : KeptOut lo hi w w') (hb : b < w.heap.size) (ho : b < lo ∨ hi ≤ b) : BssAt w' b o l :=
  fun i hi' => (g.cell hb ho).trans (h i hi')
inductive SlWBs (lo hi : Nat) (w : World) (l : List Bool) : Value → Prop where
  | empty (a : Option Addr) (cap : Nat) (h : l = []) : SlWBs lo hi w l (.slice a 0 cap)
  | mk (b o cap : Nat) (hc : BssAt w b o l) (h1 : lo ≤ b) (h2 : b < hi) (hb : b < w.heap.size) (hf : ∀ j, w.frozen? ⟨b, j, none⟩ = false) (hl : l.length ≤ cap) : SlWBs lo hi w l (.slice (some ⟨b, o, none⟩) l.length cap)
theorem SlWBs.sl {lo hi : Nat} {w : World} {l : List Bool} {v : Value} (h : SlWBs lo hi w l v) : SlBs w l v := by
  cases h with
  | empty a cap h => exact .empty a cap h
  | mk b o cap hc _ _ hb _ hl => exact .mk b o cap hc hb hl
theorem SlWBs.below {lo hi : Nat} {w w' : World} {l : List Bool} {v : Value} (h : SlWBs lo hi w l v) (g : Below w.heap.size w w') : SlWBs lo hi w' l v := by
  cases h with
  | empty a cap h => exact .empty a cap h
  | mk b o cap hc h1 h2 hb hf hl => exact .mk b o cap (hc.below g hb) h1 h2 (Nat.lt_of_lt_of_le hb g.size) (fun j => (g.frozen (p := ⟨b, j, none⟩) hb).trans (hf j)) hl
theorem SlWBs.out {lo hi lo2 hi2 : Nat} {w w' : World} {l : List Bool} {v : Value} (h : SlWBs lo hi w l v) (g : KeptOut lo2 hi2 w w') (ho : hi ≤ lo2 ∨ hi2 ≤ lo) : SlWBs lo hi w' l v := by
  cases h with
  | empty a cap h => exact .empty a cap h
  | mk b o cap hc h1 h2 hb hf hl => exact .mk b o cap (hc.out g hb (by omega)) h1 h2 (Nat.lt_of_lt_of_le hb g.size) (fun j => (g.frozen hb (by omega)).trans (hf j)) hl
theorem SlWBs.mono {lo hi lo2 hi2 : Nat} {w : World} {l : List Bool} {v : Value} (h : SlWBs lo hi w l v) (h1 : lo2 ≤ lo) (h2 : hi ≤ hi2) : SlWBs lo2 hi2 w l v := by
  cases h with
  | empty a cap h => exact .empty a cap h
  | mk b o cap hc h1 h2 hb hf hl => exact .mk b o cap hc (by omega) (by omega) hb hf hl
theorem SlWBs.form {lo hi : Nat} {w : World} {l : List Bool} {v : Value} (h : SlWBs lo hi w l v) : ∃ a c, v = .slice a l.length c := by
  cases h with
  | empty a cap h => exact ⟨a, cap, by rw [h]; rfl⟩
  | mk b o cap _ _ _ _ _ _ => exact ⟨_, cap, rfl⟩
inductive SlOBs (B : Nat) (w : World) (l : List Bool) : Value → Prop where
  | empty (a : Option Addr) (cap : Nat) (h : l = []) : SlOBs B w l (.slice a 0 cap)
  | mk (b o cap : Nat) (hc : BssAt w b o l) (hB : b < B) (hb : b < w.heap.size) (hl : l.length ≤ cap) : SlOBs B w l (.slice (some ⟨b, o, none⟩) l.length cap)
theorem SlOBs.sl {B : Nat} {w : World} {l : List Bool} {v : Value} (h : SlOBs B w l v) : SlBs w l v := by
  cases h with
  | empty a cap h => exact .empty a cap h
  | mk b o cap hc _ hb hl => exact .mk b o cap hc hb hl
theorem SlOBs.start {w : World} {l : List Bool} {v : Value} (h : SlBs w l v) : SlOBs w.heap.size w l v := by
  cases h with
  | empty a cap h => exact .empty a cap h
  | mk b o cap hc hb hl => exact .mk b o cap hc hb hb hl
theorem SlOBs.below {B : Nat} {w w' : World} {l : List Bool} {v : Value} (h : SlOBs B w l v) (g : Below w.heap.size w w') : SlOBs B w' l v := by
  cases h with
  | empty a cap h => exact .empty a cap h
  | mk b o cap hc hB hb hl => exact .mk b o cap (hc.below g hb) hB (Nat.lt_of_lt_of_le hb g.size) hl
theorem SlOBs.out {B lo hi : Nat} {w w' : World} {l : List Bool} {v : Value} (h : SlOBs B w l v) (g : KeptOut lo hi w w') (ho : B ≤ lo) : SlOBs B w' l v := by
  cases h with
  | empty a cap h => exact .empty a cap h
  | mk b o cap hc hB hb hl => exact .mk b o cap (hc.out g hb (Or.inl (by omega))) hB (Nat.lt_of_lt_of_le hb g.size) hl

def flatBs (l : List Bool) : List Value := l.map fun x => .bool x
theorem flatBs_length (l : List Bool) : (flatBs l).length = l.length := by simp [flatBs]
theorem flatBs_one (l : List Bool) : ∀ u ∈ flatBs l, u.oneCell' = true := by
  intro u hu
  obtain ⟨p, _, rfl⟩ := List.mem_map.1 hu
  rfl
theorem flatBs_end (l : List Bool) (p : Bool) : flatBs (l ++ [p]) = flatBs l ++ [.bool p] := by simp [flatBs]
theorem SlWBs.of_owns {w : World} {base : Nat} {e : TypeId} {v : Value} {n : Nat} {l : List Bool} (h : w.ownsRow base e 1 v n (flatBs l)) : SlWBs base w.heap.size w l v := by
  obtain ⟨hl, h | ⟨g, cap, cur, rfl, hb, hg, hn, hm, hs, ht⟩⟩ := h
  · obtain ⟨rfl, rfl⟩ := h
    rw [flatBs_length] at hl
    exact .empty none 0 (List.length_eq_zero_iff.1 (by omega))
  · rw [flatBs_length] at hl
    obtain rfl : n = l.length := by omega
    have hlt : g < w.heap.size := (Array.getElem?_eq_some_iff.1 hg).1
    refine .mk g 0 cap (fun i hi => ?_) hb hlt hlt (fun j => frozen_of_row w _ j _ _ hg) hn
    have hjs : i < cur.toList.length := by rw [Array.length_toList, hs]; omega
    have h2 : w.cell? ⟨g, i, none⟩ = (flatBs l)[i]? := by
      rw [← ht, List.getElem?_take_of_lt (by omega), List.getElem?_eq_getElem hjs]
      exact (cell_of_row w g i cur e _ hg).trans (by simp)
    rw [Nat.zero_add, h2]
    simp [flatBs, List.getElem?_eq_getElem hi]
/-- block B holds n numbers from o on, whose first k are those of 'l' -/
def FilledBs (w : World) (B o n : Nat) (l : List Bool) (k : Nat) : Prop :=
  B < w.heap.size ∧ (∀ i (h : i < l.length), i < k → w.cell? ⟨B, o + i, none⟩ = some (.bool l[i])) ∧ (∀ j, j < n → ∃ v, w.cell? ⟨B, o + j, none⟩ = some v) ∧ (∀ j, w.frozen? ⟨B, j, none⟩ = false)
theorem FilledBs.start {w : World} {B o : Nat} {l0 l : List Bool} (h : BssAt w B o l0) (hb : B < w.heap.size) (hf : ∀ j, w.frozen? ⟨B, j, none⟩ = false) : FilledBs w B o l0.length l 0 :=
  ⟨hb, fun i _ hi => absurd hi (by omega), fun j hj => ⟨_, h j hj⟩, hf⟩
theorem FilledBs.made {w w' : World} {n B : Nat} {l : List Bool} {e : TypeId} {v : Value} {xs : List Value} (h : w.ownsRow B e 1 (.slice (some ⟨B, 0, none⟩) n n) n xs) : FilledBs w B 0 n l 0 := by
  refine ⟨(h.lt B rfl).2, fun i _ hi => absurd hi (by omega), fun j hj => ?_, fun j => h.frozenAt j⟩
  have hl : xs.length = n * 1 := h.1
  exact ⟨xs[j]'(by omega), by rw [Nat.zero_add, h.cellAt j (by omega)]; exact List.getElem?_eq_getElem (by omega)⟩
theorem FilledBs.below {w w' : World} {n B o k : Nat} {l : List Bool} (h : FilledBs w B o n l k) (hb : Below w.heap.size w w') : FilledBs w' B o n l k := by
  obtain ⟨h1, h2, h3, h4⟩ := h
  refine ⟨Nat.lt_of_lt_of_le h1 hb.size, fun i hi hk => ?_, fun j hj => ?_, fun j => ?_⟩
  · rw [hb.cell (p := ⟨B, o + i, none⟩) h1]; exact h2 i hi hk
  · rw [hb.cell (p := ⟨B, o + j, none⟩) h1]; exact h3 j hj
  · rw [hb.frozen (p := ⟨B, j, none⟩) h1]; exact h4 j
theorem FilledBs.store {w : World} {B o n k : Nat} {l : List Bool} {p : Bool} (h : FilledBs w B o n l k) (hk : k < l.length) (hp : l[k] = p) (hkn : k < n) : FilledBs (w.setCell ⟨B, o + k, none⟩ (.bool p)) B o n l (k + 1) := by
  obtain ⟨h1, h2, h3, h4⟩ := h
  have ne : ∀ i : Nat, i ≠ k → (⟨B, o + k, none⟩ : Addr) ≠ ⟨B, o + i, none⟩ := by intro i hi e; injection e with _ h _; omega
  refine ⟨by simpa [World.size_setCell] using h1, fun i hi hik => ?_, fun j hj => ?_, fun j => by rw [World.frozen?_setCell]; exact h4 j⟩
  · by_cases e : i = k
    · subst e
      obtain ⟨v, hv⟩ := h3 i hkn
      rw [hp, World.cell?_setCell_same _ _ _ hv]
    · rw [World.cell?_setCell_other _ _ _ _ (ne i e)]; exact h2 i hi (by omega)
  · by_cases e : j = k
    · subst e
      obtain ⟨v, hv⟩ := h3 j hj
      exact ⟨_, World.cell?_setCell_same _ _ _ hv⟩
    · rw [World.cell?_setCell_other _ _ _ _ (ne j e)]; exact h3 j hj
@[reducible] def mkB (k : Int) : Bool := k % 3 == 0
def marksBs (k : Int) (n : Nat) : List Bool := (List.range n).map fun i : Nat => mkB (k + (i : Int))
theorem marksBs_length (k : Int) (n : Nat) : (marksBs k n).length = n := by simp [marksBs]
theorem marksBs_get (k : Int) (n i : Nat) (h : i < (marksBs k n).length) : (marksBs k n)[i] = mkB (k + (i : Int)) := by simp [marksBs]
set_option maxRecDepth 100000 in
set_option maxHeartbeats 2000000 in
theorem eqBoolS_mk (b1 o1 b2 o2 n c1 c2 : Nat) (l : List Bool) (w : World) (hn : l.length = n) (h1 : BssAt w b1 o1 l) (h2 : BssAt w b2 o2 l) (hb1 : b1 < w.heap.size) (hb2 : b2 < w.heap.size) (hc1 : n ≤ c1) (hc2 : n ≤ c2) (hmax : n ≤ 1048576) :
    Calls Tryz.prog 22 #[.slice (some ⟨b1, o1, none⟩) n c1, .slice (some ⟨b2, o2, none⟩) n c2] w fun e w' => e = .returned (.bool true) ∧ Below w.heap.size w w' := by
  have Hn := Lib.hid hn
  clear hn
  go_enter Tryz.func22, Tryz.ntmps22
  go_wp2
  go_loopw [5] (fun i wr => ∃ k : Nat, k ≤ n ∧ i = .int .i64 k ∧ Below w.heap.size w wr) (fun i _ => n - (intOf i).toNat)
  case atStart => exact ⟨0, by omega, rfl, Below.refl _ _⟩
  case round =>
    obtain ⟨k, hk, rfl, hbr⟩ := hrel
    by_cases hlt : k < n
    · have hlk : k < l.length := by rw [Hn.out]; exact hlt
      have hp1 := (h1.below hbr hb1) k hlk
      have hp2 := (h2.below hbr hb2) k hlk
      generalize hpe : l[k] = p at hp1 hp2
      clear h1 h2 hpe
      go_wp2
      go_quiet (fail)
      go_wp2
      exact ⟨⟨k + 1, by omega, by go_num, kDrewN hbr _⟩, by simp [intOf]; omega⟩
    · clear h1 h2
      go_wp2
      go_ret
      exact ⟨rfl, hbr⟩
set_option maxHeartbeats 1000000 in
theorem eqBoolS_empty (a1 a2 : Option Addr) (c1 c2 : Nat) (w : World) :
    Calls Tryz.prog 22 #[.slice a1 0 c1, .slice a2 0 c2] w fun e w' => e = .returned (.bool true) ∧ Below w.heap.size w w' := by
  go_enter Tryz.func22, Tryz.ntmps22
  go_wp2
  refine wp_loop_rounds 1 ?_
  rw [rounds_succ]
  go_wp2
  go_ret
  exact ⟨rfl, Below.refl _ _⟩
theorem eqBoolS_any (v1 v2 : Value) (l : List Bool) (w : World) (h1 : SlBs w l v1) (h2 : SlBs w l v2) (h8 : BssWf l) (hmax : l.length ≤ 1048576) :
    Calls Tryz.prog 22 #[v1, v2] w fun e w' => e = .returned (.bool true) ∧ Below w.heap.size w w' := by
  cases h1 with
  | empty a cap h =>
    subst h
    cases h2 with
    | empty a2 cap2 h => exact eqBoolS_empty a a2 cap cap2 w
    | mk b o cap2 hc hb hl => exact eqBoolS_empty a _ cap cap2 w
  | mk b o cap hc hb hl =>
    cases h2 with
    | empty a2 cap2 h => subst h; exact eqBoolS_empty _ a2 cap cap2 w
    | mk b2 o2 cap2 hc2 hb2 hl2 => exact eqBoolS_mk b o b2 o2 _ cap cap2 l w rfl hc hc2 hb hb2 hl hl2 hmax
set_option maxRecDepth 100000 in
set_option maxHeartbeats 4000000 in
theorem markBoolS_mk (b o n cap : Nat) (k : Int) (l : List Bool) (w : World) (hn : l.length = n) (hc : BssAt w b o l) (hb : b < w.heap.size) (hf : ∀ j, w.frozen? ⟨b, j, none⟩ = false) (hcap : n ≤ cap) (hk0 : 0 ≤ k) (hk1 : k ≤ 100000000) (hmax : n ≤ 1048576) :
    Calls Tryz.prog 23 #[.slice (some ⟨b, o, none⟩) n cap, .int .i64 k] w fun e w' => e = .returned (.int .i64 (k + 1 * n)) ∧ FilledBs w' b o n (marksBs k n) n ∧ KeptOut b (b + 1) w w' := by
  have hst := FilledBs.start (l := marksBs k n) hc hb hf
  rw [hn] at hst
  have Hst := Lib.hid hst
  clear hst hc hf hn
  go_enter Tryz.func23, Tryz.ntmps23
  go_wp2
  go_loopw [1, 5] (fun kk i wr => ∃ j : Nat, j ≤ n ∧ i = .int .i64 j ∧ kk = .int .i64 (k + j) ∧ Hid (FilledBs wr b o n (marksBs k n) j) ∧ KeptOut b (b + 1) w wr) (fun _ i _ => n - (intOf i).toNat)
  case atStart => exact ⟨0, by omega, rfl, by simp, Hst, KeptOut.of_below (Below.refl _ _)⟩
  case round =>
    obtain ⟨j, hj, rfl, rfl, hf, hkp⟩ := hrel
    by_cases hlt : j < n
    · have hjl : j < (marksBs k n).length := by rw [marksBs_length]; exact hlt
      have HF := Lib.hid (hf.out.store hjl (marksBs_get k n j hjl) hlt)
      unfold mkB at HF
      have hbw := hf.out.1
      obtain ⟨v0, d0⟩ := hf.out.2.2.1 j (by omega)
      have f0 := hf.out.2.2.2 (o + j)
      clear hf Hst
      go_wp2
      exact ⟨⟨j + 1, by omega, by go_num, by congr 1; push_cast; omega, HF, KeptOut.set hkp ⟨b, o + j, none⟩ (Nat.le_refl _) (Nat.lt_succ_self _) _⟩, by simp [intOf]; omega⟩
    · obtain rfl : j = n := by omega
      clear Hst
      go_wp2
      go_ret
      rw [Int.one_mul]
      exact ⟨rfl, hf.out, hkp⟩
set_option maxHeartbeats 1000000 in
theorem markBoolS_none (a : Option Addr) (cap : Nat) (k : Int) (w : World) (hk0 : 0 ≤ k) (hk1 : k ≤ 100000000) :
    Calls Tryz.prog 23 #[.slice a 0 cap, .int .i64 k] w fun e w' => e = .returned (.int .i64 k) ∧ Below w.heap.size w w' := by
  go_enter Tryz.func23, Tryz.ntmps23
  go_wp2
  refine wp_loop_rounds 1 ?_
  rw [rounds_succ]
  go_wp2
  go_ret
  exact ⟨rfl, Below.refl _ _⟩
theorem markBoolS_any (lo hi : Nat) (v : Value) (l : List Bool) (k : Int) (w : World) (h : SlWBs lo hi w l v) (hk0 : 0 ≤ k) (hk1 : k ≤ 100000000) (hmax : l.length ≤ 1048576) :
    Calls Tryz.prog 23 #[v, .int .i64 k] w fun e w' => e = .returned (.int .i64 (k + 1 * l.length)) ∧ SlWBs lo hi w' (marksBs k l.length) v ∧ KeptOut lo hi w w' := by
  cases h with
  | empty a cap h =>
    subst h
    exact (markBoolS_none a cap k w hk0 hk1).mono fun e w' ⟨h1, h2⟩ => ⟨by rw [h1]; simp, .empty a cap (by simp [marksBs]), KeptOut.of_below h2⟩
  | mk b o cap hc h1 h2 hb hf hl =>
    refine (markBoolS_mk b o _ cap k l w rfl hc hb hf hl hk0 hk1 hmax).mono fun e w' ⟨e1, hF, hK⟩ => ⟨e1, ?_, hK.widen h1 (by omega)⟩
    obtain ⟨f1, f2, f3, f4⟩ := hF
    have := SlWBs.mk (lo := lo) (hi := hi) (w := w') (l := marksBs k l.length) b o cap (fun i hi => f2 i hi (by rw [marksBs_length] at hi; exact hi)) h1 h2 f1 f4 (by rw [marksBs_length]; exact hl)
    rwa [marksBs_length] at this
set_option maxRecDepth 100000 in
set_option maxHeartbeats 4000000 in
theorem heldBoolS_mk (b o n cap : Nat) (k : Int) (w : World) (hc : BssAt w b o (marksBs k n)) (hb : b < w.heap.size) (hcap : n ≤ cap) (hk0 : 0 ≤ k) (hk1 : k ≤ 100000000) (hmax : n ≤ 1048576) :
    Calls Tryz.prog 24 #[.slice (some ⟨b, o, none⟩) n cap, .int .i64 k] w fun e w' => e = .returned (.int .i64 (k + 1 * n)) ∧ Below w.heap.size w w' := by
  go_enter Tryz.func24, Tryz.ntmps24
  go_wp2
  go_loopw [1, 5] (fun kk i wr => ∃ j : Nat, j ≤ n ∧ i = .int .i64 j ∧ kk = .int .i64 (k + j) ∧ Below w.heap.size w wr) (fun _ i _ => n - (intOf i).toNat)
  case atStart => exact ⟨0, by omega, rfl, by simp, Below.refl _ _⟩
  case round =>
    obtain ⟨j, hj, rfl, rfl, hbr⟩ := hrel
    by_cases hlt : j < n
    · have hjl : j < (marksBs k n).length := by rw [marksBs_length]; exact hlt
      have d0 := (hc.below hbr hb) j hjl
      rw [marksBs_get k n j hjl] at d0
      unfold mkB at d0
      clear hc
      go_wp2
      exact ⟨⟨j + 1, by omega, by go_num, by congr 1; push_cast; omega, hbr⟩, by simp [intOf]; omega⟩
    · obtain rfl : j = n := by omega
      clear hc
      go_wp2
      go_ret
      rw [Int.one_mul]
      exact ⟨rfl, hbr⟩
set_option maxHeartbeats 1000000 in
theorem heldBoolS_none (a : Option Addr) (cap : Nat) (k : Int) (w : World) (hk0 : 0 ≤ k) (hk1 : k ≤ 100000000) :
    Calls Tryz.prog 24 #[.slice a 0 cap, .int .i64 k] w fun e w' => e = .returned (.int .i64 k) ∧ Below w.heap.size w w' := by
  go_enter Tryz.func24, Tryz.ntmps24
  go_wp2
  refine wp_loop_rounds 1 ?_
  rw [rounds_succ]
  go_wp2
  go_ret
  exact ⟨rfl, Below.refl _ _⟩
theorem heldBoolS_any (lo hi n : Nat) (v : Value) (k : Int) (w : World) (h : SlWBs lo hi w (marksBs k n) v) (hk0 : 0 ≤ k) (hk1 : k ≤ 100000000) (hmax : n ≤ 1048576) :
    Calls Tryz.prog 24 #[v, .int .i64 k] w fun e w' => e = .returned (.int .i64 (k + 1 * n)) ∧ Below w.heap.size w w' := by
  generalize hm : marksBs k n = l at h
  have hl : l.length = n := by rw [← hm, marksBs_length]
  cases h with
  | empty a cap h =>
    subst h
    obtain rfl : n = 0 := by simpa using hl.symm
    exact (heldBoolS_none a cap k w hk0 hk1).mono fun e w' ⟨h1, h2⟩ => ⟨by rw [h1]; simp, h2⟩
  | mk b o cap hc h1 h2 hb hf hcap =>
    rw [hl] at hcap ⊢
    exact heldBoolS_mk b o n cap k w (by rw [hm]; exact hc) hb hcap hk0 hk1 hmax
end Go.Proofs.YtcafoppnnlfmmaaGreatDoor

/- MachineNeeds: both sides. -/
namespace Go.Proofs.YtcafoppnnlfmmaaGreatDoor
open Go.ChangeShapes Go.WideShapes Go.ChangeAt Go.RowKit Go.Shelf Go.Joins Go.Deep
set_option linter.unusedVariables false
set_option linter.unusedSimpArgs false

theorem flip_small : ∀ (j : Fin 64) (i : Fin 6) (n : Fin 7), j.val < 2 ^ n.val → i.val < n.val → 0 ≤ Go.bits .xor .i64 (j.val : Int) (wrap64 (2 ^ i.val)) ∧ Go.bits .xor .i64 (j.val : Int) (wrap64 (2 ^ i.val)) < ((2 ^ n.val : Nat) : Int) := by decide +kernel
/-- the row with the digit i turned -/
def flipI (j i : Nat) : Nat := (Go.bits .xor .i64 (j : Int) (wrap64 (2 ^ i))).toNat
theorem flip_lt {n N i j : Nat} (hN : 2 ^ n = N) (h6 : n ≤ 6) (hi : i < n) (hj : j < N) (hN64 : N ≤ 64) : ∃ z : Nat, Go.bits .xor .i64 (j : Int) (wrap64 (2 ^ i)) = (z : Int) ∧ z < N ∧ flipI j i = z := by
  have h := flip_small ⟨j, by omega⟩ ⟨i, by omega⟩ ⟨n, by omega⟩ (by show j < 2 ^ n; omega) hi
  refine ⟨flipI j i, ?_, ?_, rfl⟩
  · unfold flipI; have := h.1; simp only at this; omega
  · have h1 := h.1; have h2 := h.2
    unfold flipI
    simp only at h1 h2
    rw [hN] at h2
    omega
/-- some of the first j rows differs from the row with the digit i turned -/
def ndB (A : List Int) (i : Nat) : Nat → Bool
  | 0 => false
  | j + 1 => ndB A i j || (A.getD j 0 != A.getD (flipI j i) 0)
theorem ndB_any {A : List Int} {i j z : Nat} {x y : Int} (hj : j < A.length) (hx : A[j] = x) (hz : z < A.length) (hy : A[z] = y) (hf : flipI j i = z) : ndB A i (j + 1) = (ndB A i j || (x != y)) := by
  rw [ndB, hf, List.getD_eq_getElem?_getD, List.getD_eq_getElem?_getD, List.getElem?_eq_getElem hj, List.getElem?_eq_getElem hz, hx, hy]; rfl
def needL (A : List Int) (n N : Nat) : List Bool := (List.range n).map fun i => ndB A i N
theorem needL_length (A : List Int) (n N : Nat) : (needL A n N).length = n := by simp [needL]
theorem needL_get (A : List Int) (n N i : Nat) (h : i < (needL A n N).length) : (needL A n N)[i] = ndB A i N := by simp [needL]
def nS (A : List Int) (N i j s : Nat) : Bool := if s < i then ndB A s N else if s = i then ndB A i j else false
theorem nS_lt {A : List Int} {N i j s : Nat} (h : s < i) : nS A N i j s = ndB A s N := by rw [nS, if_pos h]
theorem nS_at (A : List Int) (N i j : Nat) : nS A N i j i = ndB A i j := by rw [nS, if_neg (Nat.lt_irrefl i), if_pos rfl]
theorem nS_gt {A : List Int} {N i j s : Nat} (h : i < s) : nS A N i j s = false := by rw [nS, if_neg (by omega), if_neg (by omega)]
theorem nS_next {A : List Int} {N i j k s : Nat} (h : s ≠ i) : nS A N i j s = nS A N i k s := by
  rcases Nat.lt_or_gt_of_ne h with h | h
  · rw [nS_lt h, nS_lt h]
  · rw [nS_gt h, nS_gt h]
theorem nS_up (A : List Int) (N i s : Nat) : nS A N i N s = nS A N (i + 1) 0 s := by
  by_cases h : s < i
  · rw [nS_lt h, nS_lt (by omega)]
  · by_cases h2 : s = i
    · subst h2; rw [nS_at, nS_lt (by omega)]
    · rw [nS_gt (by omega)]
      by_cases h3 : s = i + 1
      · subst h3; rw [nS_at]; rfl
      · rw [nS_gt (by omega)]
theorem nS_zero (A : List Int) (N s : Nat) : nS A N 0 0 s = false := by
  by_cases h : s = 0
  · subst h; rw [nS_at]; rfl
  · rw [nS_gt (by omega)]
theorem BRow.congr {w : World} {g n : Nat} {F G : Nat → Bool} (h : BRow w g n F) (e : ∀ k, k < n → F k = G k) : BRow w g n G :=
  ⟨h.lt, fun k hk => by rw [← e k hk]; exact h.at_ k hk, h.fz⟩
theorem BRow.put2 {w : World} {g n k : Nat} {F G : Nat → Bool} {x : Bool} (h : BRow w g n F) (hk : k < n) (hx : G k = x) (e : ∀ i, i < n → i ≠ k → F i = G i) : BRow (w.setCell ⟨g, k, none⟩ (.bool x)) g n G := by
  refine ⟨by simpa [World.setCell] using h.lt, fun i hi => ?_, fun i => by rw [World.frozen?_setCell]; exact h.fz i⟩
  by_cases ei : i = k
  · subst ei
    rw [hx]
    exact World.cell?_setCell_same _ _ _ (h.at_ i hi)
  · rw [World.cell?_setCell_other _ _ _ _ (by intro x; injection x with _ x2 _; exact ei x2.symm), h.at_ i hi, e i hi ei]
theorem BRow.drewN {w : World} {g n : Nat} {F : Nat → Bool} (h : BRow w g n F) (m : Nat) : BRow (w.drewN m) g n F := ⟨h.lt, h.at_, h.fz⟩
theorem BRow.drew {w : World} {g n : Nat} {F : Nat → Bool} (h : BRow w g n F) : BRow w.drew g n F := ⟨h.lt, h.at_, h.fz⟩
theorem InsAt.farN {w : World} {b o : Nat} {l : List Int} {p : Addr} {v : Value} (h : InsAt w b o l) (hp : p.block ≠ b) : InsAt (w.setCell p v) b o l :=
  fun i hi => (World.cell?_of_block (w := w) (Below.heap_setCell _ _ _ _ (Ne.symm hp))).trans (h i hi)
theorem brow_made {w : World} {n B : Nat} {e : TypeId} (h : w.ownsRow B e 1 (.slice (some ⟨B, 0, none⟩) n n) n (madeCells #[Value.bool false] n).toList) : BRow w B n (fun _ => false) := by
  refine ⟨(h.lt B rfl).2, fun j hj => ?_, fun j => h.frozenAt j⟩
  have h2 := h.cellAt j (by omega)
  rw [toList_madeCells_one] at h2
  rw [h2]
  simp [hj]
theorem brow_slw {w : World} {lo g n N : Nat} {A : List Int} (h : BRow w g n (nS A N n 0)) (h1 : lo ≤ g) : SlWBs lo w.heap.size w (needL A n N) (.slice (some ⟨g, 0, none⟩) n n) := by
  have h2 := SlWBs.mk (lo := lo) (hi := w.heap.size) (w := w) (l := needL A n N) g 0 n (fun i hi => by
    have hi2 : i < n := by rw [needL_length] at hi; exact hi
    rw [needL_get, Nat.zero_add, h.at_ i hi2, nS_lt hi2]) h1 h.lt h.lt h.fz (by rw [needL_length]; exact Nat.le_refl _)
  rwa [needL_length] at h2
theorem slWIn_someN {lo hi : Nat} {w : World} {T : List Int} {va : Option Addr} {vc N : Nat} (h : SlWIn lo hi w T (.slice va N vc)) (h0 : 0 < T.length) : ∃ g o, va = some ⟨g, o, none⟩ ∧ InsAt w g o T ∧ g < w.heap.size ∧ T.length ≤ vc ∧ N = T.length ∧ lo ≤ g := by
  generalize hv : Value.slice va N vc = v at h
  cases h with
  | empty _ _ h => rw [h] at h0; simp at h0
  | mk g o c h1 h2 h3 h4 h5 h6 => cases hv; exact ⟨_, _, rfl, h1, h4, h6, rfl, h2⟩
def BsPost (L : List Bool) (C : Int) (w : World) (e : Ending) (w' : World) : Prop := ∃ v, e = .returned (.tuple #[v, .int .i64 C]) ∧ SlWBs w.heap.size w'.heap.size w' L v ∧ Below w.heap.size w w'
def mnQ (M : Bool) (L : List Bool) : List Bool × Int := if M = true then (L, 0) else ([], 1)
theorem pair_bi {a c : List Bool} {b d : Int} (h : (a, b) = (c, d)) : a = c ∧ b = d := by injection h with h1 h2; exact ⟨h1, h2⟩
theorem mnQ_ok {M : Bool} {A : List Int} {n N : Nat} {L : List Bool} {C : Int} (hM : M = true → n ≤ 6) (h : mnQ M (needL A n N) = (L, C)) : BssWf L ∧ L.length ≤ 1048576 := by
  cases M with
  | false => simp only [mnQ] at h; cases h; exact ⟨fun x hx => by simp at hx, by simp⟩
  | true =>
    rw [← (pair_bi (show (needL A n N, (0 : Int)) = (L, C) from h)).1]
    have := hM rfl
    exact ⟨fun _ _ => rfl, by rw [needL_length]; omega⟩
set_option maxRecDepth 100000 in
set_option maxHeartbeats 16000000 in
theorem implMachineNeeds_any (b k q m n r : Nat) (wd hi : Int) (l : List Pc) (p : List Po) (c : List Cl) (w : World) (hp : PcsAt w b 0 l) (hg : PosAt w k 0 p) (hj : ClsAt w q 0 c) (zb : b < w.heap.size) (zk : k < w.heap.size) (zq : q < w.heap.size)
    (hm : l.length = m) (hn : p.length = n) (hr : c.length = r) (h8 : All8 l) (hw : PosWf p) (bw : i8 wd) (bh : i8 hi) (m0 : m ≤ 1048576) (m1 : n ≤ 1048576) (m2 : r ≤ 1048576) (M : Bool) (hM : M = machOk wd hi l p c) (F : Nat → List Fl) (hF : M = true → AnsAt wd hi l p c n F) (N : Nat) (hN : 2 ^ n = N) (hst : StayAt w) (L : List Bool) (C : Int) (hQ : mnQ M (needL (ansL l c F N) n N) = (L, C)) :
    Calls Tryz.prog 21 #[.agg #[.int .i8 wd, .int .i8 hi, .slice (some ⟨b, 0, none⟩) m m, .slice (some ⟨k, 0, none⟩) n n, .slice (some ⟨q, 0, none⟩) r r]] w (BsPost L C w) := by
  have ka : Below w.heap.size w (w.alloc (.cells #[.int .i8 wd, .int .i8 hi, .slice (some ⟨b, 0, none⟩) m m, .slice (some ⟨k, 0, none⟩) n n, .slice (some ⟨q, 0, none⟩) r r] 40)) := by repeat (first | with_reducible exact Below.refl _ _ | (with_reducible refine kSet ?_ ?hB _; case hB => (simp; try omega)) | with_reducible refine kAlloc ?_ _ | with_reducible refine Below.drew ?_ | with_reducible refine kDrewN ?_ _ | with_reducible refine kTrans ?_ (by assumption))
  have HV := Lib.hid (by have h := deviceOf_any b k q wd hi l p c _ (hp.below ka zb) (hg.below ka zk) (hj.below ka zq) (Nat.lt_of_lt_of_le zb ka.size) (Nat.lt_of_lt_of_le zk ka.size) (Nat.lt_of_lt_of_le zq ka.size) h8 hw (by omega) (by omega) (by omega) M hM; rw [hm, hn, hr] at h; exact h)
  have HS := Lib.hid (fun W (h : Below w.heap.size w W) => hst.below h)
  have HP := Lib.hid (fun W (h : Below w.heap.size w W) => hp.below h zb)
  have HG := Lib.hid (fun W (h : Below w.heap.size w W) => hg.below h zk)
  have HC := Lib.hid (fun W (h : Below w.heap.size w W) => hj.below h zq)
  have HFF := Lib.hid hF
  have HNN := Lib.hid hN
  have HM := Lib.hid hM
  have Hn := Lib.hid hn
  have Hm := Lib.hid hm
  have Hr := Lib.hid hr
  have HQ := Lib.hid hQ
  clear hp hg hj h8 hw hst hM hn hm hr hF hN hQ
  cases M with
  | false =>
    obtain ⟨rfl, rfl⟩ := pair_bi (show (([] : List Bool), (1 : Int)) = (L, C) from HQ.out)
    clear HQ HP HG HC HFF HM HNN
    go_enter Tryz.func21, Tryz.ntmps21
    go_wp2_with fail
    refine HV.out.mono ?_
    rintro e w1 ⟨_, h1, hb1⟩
    obtain rfl := h1 rfl
    have T1 := kTrans ka hb1
    clear HV h1 hb1
    go_wp2
    exact bodyPost_ret (v := .tuple #[.slice none 0 0, .int .i64 1]) (by simp [results, Tryz.results21, go_sem]) rfl ⟨_, rfl, .empty _ _ rfl, by repeat (first | with_reducible exact Below.refl _ _ | (with_reducible refine kSet ?_ ?hB _; case hB => (simp; try omega)) | with_reducible refine kAlloc ?_ _ | with_reducible refine Below.drew ?_ | with_reducible refine kDrewN ?_ _ | with_reducible refine kTrans ?_ (by assumption))⟩
  | true =>
    have hmp := machOk_parts HM.out.symm
    rw [Hm.out, Hn.out, Hr.out] at hmp
    have h6 := hmp.2.1.2.1.2
    have hr8 := hmp.2.1.2.2.2
    have hr1 := hmp.2.1.2.2.1
    have h60 := hmp.2.1.1
    have Hf := Lib.hid (HFF.out rfl)
    obtain ⟨hN64, hN1, hpn⟩ := pow_N h6 HNN.out
    clear hmp HFF
    obtain ⟨i0, hi0, hz0, hzz1, hzz2⟩ := info_parts info_bool
    have Hi := Lib.hid hi0
    have Hz0 := Lib.hid hz0
    have Hz1 := Lib.hid hzz1
    have Hz2 := Lib.hid hzz2
    have HA2 := Lib.hid (ansL_length l c F N)
    obtain ⟨A, hA⟩ : ∃ A, ansL l c F N = A := ⟨_, rfl⟩
    have HAE := Lib.hid hA
    have hq := HQ.out
    rw [hA] at HA2 hq
    obtain ⟨rfl, rfl⟩ := pair_bi (show (needL A n N, (0 : Int)) = (L, C) from hq)
    have HFL := Lib.hid (fun i j (hi : i < n) (hj : j < N) => flip_lt HNN.out h6 hi hj hN64)
    clear hi0 hz0 hzz1 hzz2 hA hq HQ hpn
    go_enter Tryz.func21, Tryz.ntmps21
    go_wp2_with fail
    refine HV.out.mono ?_
    rintro e w1 ⟨h1, _, hb1⟩
    obtain ⟨B, rfl, hmpB⟩ := h1 rfl
    have T1 := kTrans ka hb1
    have HMp := Lib.hid hmpB
    clear HV h1 hb1 hmpB
    obtain ⟨W, hW⟩ : ∃ W, w1.alloc (.cells #[.int .i8 wd, .int .i8 hi, .map (some B), .int .i8 wd, .int .i8 hi, .slice (some ⟨b, 0, none⟩) m m, .slice (some ⟨k, 0, none⟩) n n, .slice (some ⟨q, 0, none⟩) r r] 79) = W := ⟨_, rfl⟩
    have kW : Below w1.heap.size w1 W := by rw [← hW]; exact kAlloc (Below.refl _ _) _
    have bD : W.heap[w1.heap.size]? = some (.cells #[.int .i8 wd, .int .i8 hi, .map (some B), .int .i8 wd, .int .i8 hi, .slice (some ⟨b, 0, none⟩) m m, .slice (some ⟨k, 0, none⟩) n n, .slice (some ⟨q, 0, none⟩) r r] 79 (0, 0)) := by rw [← hW]; exact heap_alloc_new _ _
    have HD := Lib.hid (fun W2 (h2 : Below w1.heap.size w1 W2) => (⟨HMp.out.below h2, HP.out _ (kTrans T1 h2), HG.out _ (kTrans T1 h2), HC.out _ (kTrans T1 h2), Nat.lt_of_lt_of_le zb (kTrans T1 h2).size, Nat.lt_of_lt_of_le zk (kTrans T1 h2).size, Nat.lt_of_lt_of_le zq (kTrans T1 h2).size, HS.out _ (kTrans T1 h2)⟩ : DvAt W2 B b k q l p c))
    have HW := Lib.hid hW
    have lD := blk_lt bD
    have BD := Lib.hid (fun W2 (h2 : Below W.heap.size W W2) => blk_below bD h2)
    have c0 : W.cell? ⟨w1.heap.size, 0, none⟩ = some (.int .i8 wd) := cell_of_row _ _ 0 _ _ _ (bD)
    have c1 : W.cell? ⟨w1.heap.size, 1, none⟩ = some (.int .i8 hi) := cell_of_row _ _ 1 _ _ _ (bD)
    have c2 : W.cell? ⟨w1.heap.size, 2, none⟩ = some (.map (some B)) := cell_of_row _ _ 2 _ _ _ (bD)
    have c3 : W.cell? ⟨w1.heap.size, 3, none⟩ = some (.int .i8 wd) := cell_of_row _ _ 3 _ _ _ (bD)
    have c4 : W.cell? ⟨w1.heap.size, 4, none⟩ = some (.int .i8 hi) := cell_of_row _ _ 4 _ _ _ (bD)
    have c5 : W.cell? ⟨w1.heap.size, 5, none⟩ = some (.slice (some ⟨b, 0, none⟩) m m) := cell_of_row _ _ 5 _ _ _ (bD)
    have c6 : W.cell? ⟨w1.heap.size, 6, none⟩ = some (.slice (some ⟨k, 0, none⟩) n n) := cell_of_row _ _ 6 _ _ _ (bD)
    have c7 : W.cell? ⟨w1.heap.size, 7, none⟩ = some (.slice (some ⟨q, 0, none⟩) r r) := cell_of_row _ _ 7 _ _ _ (bD)
    clear hW bD
    go_upto_region 2 with fail
    try rw [HW.out]
    clear HW
    go_wp2_with (refine wpList_make_full _ rfl _ _ 49 rfl W.heap.size 4 i0 _ 1 Tryz.underlying49 Hi.out Hz0.out Hz1.out _ _ _ _ n rfl rfl rfl rfl ?c1 ?c2 ?c3 ?_)
    case c1 => rw [Hz2.out]; omega
    case c2 => unfold maxLen; omega
    case c3 => exact Nat.le_refl _
    intro w2 hown hgr
    have HU0 := Lib.hid (brow_made hown)
    have hB2 : Below W.heap.size W w2 := (Below.refl _ _).grown hgr (Nat.le_refl _) (by intro k hk; cases hk)
    have bD2 := BD.out w2 hB2
    have T2 := kTrans kW hB2
    have HANS := Lib.hid (by have h := answers_any B b k q m n r wd hi l p c w2 (HD.out _ T2) Hm.out Hn.out Hr.out h6 hr8 F Hf.out N HNN.out; rw [HAE.out] at h; exact h)
    clear c0 c1 c2 c3 c4 c5 c6 c7 hown hgr BD
    have c0 : w2.cell? ⟨w1.heap.size, 0, none⟩ = some (.int .i8 wd) := cell_of_row _ _ 0 _ _ _ (bD2)
    have c1 : w2.cell? ⟨w1.heap.size, 1, none⟩ = some (.int .i8 hi) := cell_of_row _ _ 1 _ _ _ (bD2)
    have c2 : w2.cell? ⟨w1.heap.size, 2, none⟩ = some (.map (some B)) := cell_of_row _ _ 2 _ _ _ (bD2)
    have c3 : w2.cell? ⟨w1.heap.size, 3, none⟩ = some (.int .i8 wd) := cell_of_row _ _ 3 _ _ _ (bD2)
    have c4 : w2.cell? ⟨w1.heap.size, 4, none⟩ = some (.int .i8 hi) := cell_of_row _ _ 4 _ _ _ (bD2)
    have c5 : w2.cell? ⟨w1.heap.size, 5, none⟩ = some (.slice (some ⟨b, 0, none⟩) m m) := cell_of_row _ _ 5 _ _ _ (bD2)
    have c6 : w2.cell? ⟨w1.heap.size, 6, none⟩ = some (.slice (some ⟨k, 0, none⟩) n n) := cell_of_row _ _ 6 _ _ _ (bD2)
    have c7 : w2.cell? ⟨w1.heap.size, 7, none⟩ = some (.slice (some ⟨q, 0, none⟩) r r) := cell_of_row _ _ 7 _ _ _ (bD2)
    clear bD2
    go_wp2_with fail
    refine HANS.out.mono ?_
    rintro e w3 ⟨v, rfl, hown, hb3⟩
    obtain ⟨va, vc, rfl⟩ := owns_slice hown
    have hs := SlWIn.of_owns hown
    obtain ⟨g, o, rfl, hI, hgl, hcl, -, hlo⟩ := slWIn_someN hs (by rw [HA2.out]; omega)
    rw [HA2.out] at hcl
    have hg1 := HU0.out.lt
    have hwW : w.heap.size ≤ W.heap.size := (kTrans T1 kW).size
    have HU : Hid (BRow w3 W.heap.size n (nS A N 0 0)) := Lib.hid ((HU0.out.below hb3).congr fun s hs => (nS_zero A N s).symm)
    have HI := Lib.hid hI
    have KW := Lib.hid (kTrans T1 (kTrans T2 hb3))
    clear c0 c1 c2 c3 c4 c5 c6 c7 HANS hs hI hown hb3 HU0 hB2 T2 HD Hf HAE
    go_wp2
    go_loopw [8, 9, 10, 27] (fun _ _ _ z wr => ∃ i : Nat, i ≤ n ∧ z = .int .i64 i ∧ Hid (BRow wr W.heap.size n (nS A N i 0)) ∧ Hid (InsAt wr g o A) ∧ Hid (Below w.heap.size w wr)) (fun _ _ _ z _ => n - (intOf z).toNat)
    case atStart => exact ⟨0, by omega, rfl, HU, HI, KW⟩
    case round =>
      clear HU HI KW
      obtain ⟨i, hi, rfl, hU, hI, hT⟩ := hrel
      have hiu : IntKind.u64.wrap (i : Int) = i := IntWalk.u64_in _ (by omega)
      by_cases hin : i < n
      · go_wp2
        go_loopw [9, 10, 32] (fun _ _ z wr => ∃ j : Nat, j ≤ N ∧ z = .int .i64 j ∧ Hid (BRow wr W.heap.size n (nS A N i j)) ∧ Hid (InsAt wr g o A) ∧ Hid (Below w.heap.size w wr)) (fun _ _ z _ => N - (intOf z).toNat)
        case atStart => exact ⟨0, by omega, rfl, hU, hI, hT⟩
        case round =>
          clear hU hI hT
          obtain ⟨j, hj, rfl, hU, hI, hT⟩ := hrel
          by_cases hlt : j < N
          · have hjA : j < A.length := by rw [HA2.out]; exact hlt
            obtain ⟨z, hz, hzN, hzf⟩ := HFL.out i j hin hlt
            have hzA : z < A.length := by rw [HA2.out]; exact hzN
            obtain ⟨x, hx⟩ : ∃ x, A[j] = x := ⟨_, rfl⟩
            obtain ⟨y, hy⟩ : ∃ y, A[z] = y := ⟨_, rfl⟩
            have HND := Lib.hid (ndB_any hjA hx hzA hy hzf)
            have cx := hI.out j hjA
            have cy := hI.out z hzA
            rw [hx] at cx
            rw [hy] at cy
            have cb := hU.out.at_ i hin
            rw [nS_at] at cb
            have fz := hU.out.fz i
            have gl := hU.out.lt
            clear hx hy hzf hjA hzA
            cases hb : ndB A i j with
            | true =>
              rw [hb] at cb HND
              have HPUT := Lib.hid (hU.out.put2 (x := true) (G := nS A N i (j + 1)) hin (by rw [nS_at, HND.out]; rfl) (fun s hs he => nS_next he))
              have HI2 := Lib.hid (hI.out.farN (p := ⟨W.heap.size, i, none⟩) (v := .bool true) (show W.heap.size ≠ g by omega))
              have HT2 := Lib.hid (kSet hT.out (p := ⟨W.heap.size, i, none⟩) (show w.heap.size ≤ W.heap.size by omega) (.bool true))
              clear hU hI hT HND
              clear hb
              go_wp2
              exact ⟨⟨j + 1, by omega, by go_num, HPUT, HI2, HT2⟩, by simp [intOf]; omega⟩
            | false =>
              rw [hb] at cb HND
              by_cases he : x = y
              · have he1 : (x == y) = true := by simpa using he
                have he2 : (x != y) = false := by simpa using he
                have HPUT := Lib.hid (hU.out.put2 (x := false) (G := nS A N i (j + 1)) hin (by rw [nS_at, HND.out, he2]; rfl) (fun s hs he => nS_next he))
                have HI2 := Lib.hid (hI.out.farN (p := ⟨W.heap.size, i, none⟩) (v := .bool false) (show W.heap.size ≠ g by omega))
                have HT2 := Lib.hid (kSet hT.out (p := ⟨W.heap.size, i, none⟩) (show w.heap.size ≤ W.heap.size by omega) (.bool false))
                clear hU hI hT HND
                clear hb he
                go_wp2
                exact ⟨⟨j + 1, by omega, by go_num, HPUT, HI2, HT2⟩, by simp [intOf]; omega⟩
              · have he1 : (x == y) = false := by simpa using he
                have he2 : (x != y) = true := by simpa using he
                have HPUT := Lib.hid (hU.out.put2 (x := true) (G := nS A N i (j + 1)) hin (by rw [nS_at, HND.out, he2]; rfl) (fun s hs he => nS_next he))
                have HI2 := Lib.hid (hI.out.farN (p := ⟨W.heap.size, i, none⟩) (v := .bool true) (show W.heap.size ≠ g by omega))
                have HT2 := Lib.hid (kSet hT.out (p := ⟨W.heap.size, i, none⟩) (show w.heap.size ≤ W.heap.size by omega) (.bool true))
                clear hU hI hT HND
                clear hb he
                go_wp2
                exact ⟨⟨j + 1, by omega, by go_num, HPUT, HI2, HT2⟩, by simp [intOf]; omega⟩
          · obtain rfl : j = N := by omega
            have HU3 : Hid (BRow wr W.heap.size n (nS A j (i + 1) 0)) := Lib.hid (hU.out.congr fun s _ => nS_up A j i s)
            clear hU
            go_wp2
            exact ⟨⟨i + 1, by omega, by go_num, HU3, hI, hT⟩, by simp [intOf]; omega⟩
      · obtain rfl : i = n := by omega
        have HS := Lib.hid (brow_slw (lo := w.heap.size) hU.out (by omega))
        clear hU
        go_wp2
        exact bodyPost_ret (v := .tuple #[.slice (some ⟨W.heap.size, 0, none⟩) i i, .int .i64 0]) (by simp [results, Tryz.results21, go_sem]) rfl ⟨_, rfl, HS.out, hT.out⟩
set_option maxRecDepth 100000 in
set_option maxHeartbeats 16000000 in
theorem specMachineNeeds_any (b k q m n r : Nat) (wd hi : Int) (l : List Pc) (p : List Po) (c : List Cl) (w : World) (hp : PcsAt w b 0 l) (hg : PosAt w k 0 p) (hj : ClsAt w q 0 c) (zb : b < w.heap.size) (zk : k < w.heap.size) (zq : q < w.heap.size)
    (hm : l.length = m) (hn : p.length = n) (hr : c.length = r) (h8 : All8 l) (hw : PosWf p) (bw : i8 wd) (bh : i8 hi) (m0 : m ≤ 1048576) (m1 : n ≤ 1048576) (m2 : r ≤ 1048576) (M : Bool) (hM : M = machOk wd hi l p c) (F : Nat → List Fl) (hF : M = true → AnsAt wd hi l p c n F) (N : Nat) (hN : 2 ^ n = N) (L : List Bool) (C : Int) (hQ : mnQ M (needL (ansL l c F N) n N) = (L, C)) :
    Calls Tryz.prog 20 #[.agg #[.int .i8 wd, .int .i8 hi, .slice (some ⟨b, 0, none⟩) m m, .slice (some ⟨k, 0, none⟩) n n, .slice (some ⟨q, 0, none⟩) r r]] w (BsPost L C w) := by
  obtain ⟨W, hW⟩ : ∃ W, w.alloc (.cells #[.int .i8 wd, .int .i8 hi, .slice (some ⟨b, 0, none⟩) m m, .slice (some ⟨k, 0, none⟩) n n, .slice (some ⟨q, 0, none⟩) r r] 40) = W := ⟨_, rfl⟩
  have kW : Below w.heap.size w W := by rw [← hW]; exact kAlloc (Below.refl _ _) _
  have bm : McAt W w.heap.size wd hi (.slice (some ⟨b, 0, none⟩) m m) (.slice (some ⟨k, 0, none⟩) n n) (.slice (some ⟨q, 0, none⟩) r r) := by rw [← hW]; exact McAt.box _ _ _ _ _ _ _
  have lD := bm.lt
  have HM0 := Lib.hid (fun W2 (h2 : Below W.heap.size W W2) => bm.below h2 lD)
  have HV := Lib.hid (l03Ok_any w.heap.size b k q m n r wd hi l p c W hm hn hr bm (hp.below kW zb) (hg.below kW zk) (hj.below kW zq) (Nat.lt_of_lt_of_le zb kW.size) (Nat.lt_of_lt_of_le zk kW.size) (Nat.lt_of_lt_of_le zq kW.size) h8 hw bw bh m0 m1 m2 M hM)
  have HP := Lib.hid (fun W (h : Below w.heap.size w W) => hp.below h zb)
  have HG := Lib.hid (fun W (h : Below w.heap.size w W) => hg.below h zk)
  have HC := Lib.hid (fun W (h : Below w.heap.size w W) => hj.below h zq)
  have HFF := Lib.hid hF
  have HNN := Lib.hid hN
  have HM := Lib.hid hM
  have Hn := Lib.hid hn
  have Hm := Lib.hid hm
  have Hr := Lib.hid hr
  have HQ := Lib.hid hQ
  have HW := Lib.hid hW
  obtain ⟨x0, x1, x2, x3, x4⟩ := bm
  clear hp hg hj h8 hw hM hn hm hr hF hN hW hQ
  cases M with
  | false =>
    obtain ⟨rfl, rfl⟩ := pair_bi (show (([] : List Bool), (1 : Int)) = (L, C) from HQ.out)
    clear HQ HP HG HC HFF HM HNN
    go_enter Tryz.func20, Tryz.ntmps20
    go_upto_region 1 with fail
    try rw [HW.out]
    go_wp2_with fail
    refine HV.out.mono ?_
    rintro e w1 ⟨rfl, hb1⟩
    have T1 := kTrans kW hb1
    clear HV hb1 x0 x1 x2 x3 x4
    go_wp2
    exact bodyPost_ret (v := .tuple #[.slice (some ⟨w1.heap.size, 0, none⟩) 0 0, .int .i64 1]) (by simp [results, Tryz.results20, go_sem]) rfl ⟨_, rfl, .empty _ _ rfl, by repeat (first | with_reducible exact Below.refl _ _ | (with_reducible refine kSet ?_ ?hB _; case hB => (simp; try omega)) | with_reducible refine kAlloc ?_ _ | with_reducible refine Below.drew ?_ | with_reducible refine kDrewN ?_ _ | with_reducible refine kTrans ?_ (by assumption))⟩
  | true =>
    have hmp := machOk_parts HM.out.symm
    rw [Hm.out, Hn.out, Hr.out] at hmp
    have h6 := hmp.2.1.2.1.2
    have hr8 := hmp.2.1.2.2.2
    have hr1 := hmp.2.1.2.2.1
    have Hf := Lib.hid (HFF.out rfl)
    obtain ⟨hN64, hN1, hpn⟩ := pow_N h6 HNN.out
    clear hmp HFF
    obtain ⟨i0, hi0, hz0, hzz1, hzz2⟩ := info_parts info_bool
    have Hi := Lib.hid hi0
    have Hz0 := Lib.hid hz0
    have Hz1 := Lib.hid hzz1
    have Hz2 := Lib.hid hzz2
    have HA2 := Lib.hid (ansL_length l c F N)
    obtain ⟨A, hA⟩ : ∃ A, ansL l c F N = A := ⟨_, rfl⟩
    have HAE := Lib.hid hA
    have hq := HQ.out
    rw [hA] at HA2 hq
    obtain ⟨rfl, rfl⟩ := pair_bi (show (needL A n N, (0 : Int)) = (L, C) from hq)
    have HFL := Lib.hid (fun i j (hi : i < n) (hj : j < N) => flip_lt HNN.out h6 hi hj hN64)
    clear hi0 hz0 hzz1 hzz2 hA hq HQ hpn
    go_enter Tryz.func20, Tryz.ntmps20
    go_upto_region 1 with fail
    try rw [HW.out]
    go_wp2_with fail
    refine HV.out.mono ?_
    rintro e w1 ⟨rfl, hb1⟩
    have T1 := kTrans kW hb1
    clear HV HW x0 x1 x2 x3 x4
    obtain ⟨x0, x1, x2, x3, x4⟩ := HM0.out w1 hb1
    have l1 := Nat.lt_of_lt_of_le lD hb1.size
    have HANS := Lib.hid (by have h := l03All_any w.heap.size b k q m n r wd hi l p c w1 (HM0.out _ hb1) (HP.out _ T1) (HG.out _ T1) (HC.out _ T1) (Nat.lt_of_lt_of_le zb T1.size) (Nat.lt_of_lt_of_le zk T1.size) (Nat.lt_of_lt_of_le zq T1.size) Hm.out Hn.out Hr.out h6 hr8 F Hf.out N HNN.out; rw [HAE.out] at h; exact h)
    clear x0 x1 x2 x3 x4
    go_wp2_with fail
    refine HANS.out.mono ?_
    rintro e w2 ⟨v, rfl, hown, -, hb3⟩
    obtain ⟨va, vc, rfl⟩ := owns_slice hown
    have hs := SlWIn.of_owns hown
    obtain ⟨g, o, rfl, hI, hgl, hcl, -, hlo⟩ := slWIn_someN hs (by rw [HA2.out]; omega)
    rw [HA2.out] at hcl
    obtain ⟨x0, x1, x2, x3, x4⟩ := HM0.out w2 (kTrans hb1 hb3)
    have T2 := kTrans T1 hb3
    have hs2 := T2.size
    have lD2 := Nat.lt_of_lt_of_le lD (kTrans hb1 hb3).size
    clear HANS hs hown
    go_wp2_with (refine wpList_make_full _ rfl _ _ 49 rfl w2.heap.size 4 i0 _ 1 Tryz.underlying49 Hi.out Hz0.out Hz1.out _ _ _ _ n rfl rfl rfl rfl ?c1 ?c2 ?c3 ?_)
    case c1 => rw [Hz2.out]; omega
    case c2 => unfold maxLen; omega
    case c3 => exact Nat.le_refl _
    intro w3 hown hgr
    have HU0 := Lib.hid (brow_made hown)
    have hB3 : Below w2.heap.size w2 w3 := (Below.refl _ _).grown hgr (Nat.le_refl _) (by intro k hk; cases hk)
    have HU : Hid (BRow w3 w2.heap.size n (nS A N 0 0)) := Lib.hid (HU0.out.congr fun s hs => (nS_zero A N s).symm)
    have HI : Hid (InsAt w3 g o A) := Lib.hid (hI.below hB3 hgl)
    have KW := Lib.hid (kTrans T2 hB3)
    clear x0 x1 x2 x3 x4 hI hown hb3 hB3 hgr HU0 HM0 Hf HAE hb1 T1
    go_wp2
    go_loopw [6, 7] (fun z _ wr => ∃ i : Nat, i ≤ n ∧ z = .int .i64 i ∧ Hid (BRow wr w2.heap.size n (nS A N i 0)) ∧ Hid (InsAt wr g o A) ∧ Hid (Below w.heap.size w wr)) (fun z _ _ => n - (intOf z).toNat)
    case atStart => exact ⟨0, by omega, rfl, HU, HI, KW⟩
    case round =>
      clear HU HI KW
      obtain ⟨i, hi, rfl, hU, hI, hT⟩ := hrel
      have hiu : IntKind.u64.wrap (i : Int) = i := IntWalk.u64_in _ (by omega)
      by_cases hin : i < n
      · go_wp2
        go_loopw [7] (fun z wr => ∃ j : Nat, j ≤ N ∧ z = .int .i64 j ∧ Hid (BRow wr w2.heap.size n (nS A N i j)) ∧ Hid (InsAt wr g o A) ∧ Hid (Below w.heap.size w wr)) (fun z _ => N - (intOf z).toNat)
        case atStart => exact ⟨0, by omega, rfl, hU, hI, hT⟩
        case round =>
          clear hU hI hT
          obtain ⟨j, hj, rfl, hU, hI, hT⟩ := hrel
          by_cases hlt : j < N
          · have hjA : j < A.length := by rw [HA2.out]; exact hlt
            obtain ⟨z, hz, hzN, hzf⟩ := HFL.out i j hin hlt
            have hzA : z < A.length := by rw [HA2.out]; exact hzN
            obtain ⟨x, hx⟩ : ∃ x, A[j] = x := ⟨_, rfl⟩
            obtain ⟨y, hy⟩ : ∃ y, A[z] = y := ⟨_, rfl⟩
            have HND := Lib.hid (ndB_any hjA hx hzA hy hzf)
            have cx := hI.out j hjA
            have cy := hI.out z hzA
            rw [hx] at cx
            rw [hy] at cy
            have cb := hU.out.at_ i hin
            rw [nS_at] at cb
            have fz := hU.out.fz i
            have gl := hU.out.lt
            clear hx hy hzf hjA hzA
            by_cases he : x = y
            · have he1 : (x == y) = true := by simpa using he
              have he2 : (x != y) = false := by simpa using he
              have HU3 : Hid (BRow wr w2.heap.size n (nS A N i (j + 1))) := Lib.hid (hU.out.congr fun s hs => by
                by_cases h : s = i
                · subst h; rw [nS_at, nS_at, HND.out, he2, Bool.or_false]
                · exact nS_next h)
              clear hU HND he
              go_wp2
              go_quiet (fail)
              go_wp2
              exact ⟨⟨j + 1, by omega, by go_num, Lib.hid (HU3.out.drewN _), hI, Lib.hid (kDrewN hT.out _)⟩, by simp [intOf]; omega⟩
            · have he1 : (x == y) = false := by simpa using he
              have he2 : (x != y) = true := by simpa using he
              have HPUT := Lib.hid (fun nq => (hU.out.drewN nq).put2 (x := true) (G := nS A N i (j + 1)) hin (by rw [nS_at, HND.out, he2, Bool.or_true]) (fun s hs he => nS_next he))
              have HI2 := Lib.hid (hI.out.farN (p := ⟨w2.heap.size, i, none⟩) (v := .bool true) (show w2.heap.size ≠ g by omega))
              have HT2 := Lib.hid (fun nq => kSet (kDrewN hT.out nq) (p := ⟨w2.heap.size, i, none⟩) (show w.heap.size ≤ w2.heap.size by omega) (.bool true))
              clear hU hI hT HND
              clear he
              go_wp2
              go_quiet (fail)
              go_wp2
              exact ⟨⟨j + 1, by omega, by go_num, Lib.hid (HPUT.out _), HI2, Lib.hid (HT2.out _)⟩, by simp [intOf]; omega⟩
          · obtain rfl : j = N := by omega
            have HU3 : Hid (BRow wr w2.heap.size n (nS A j (i + 1) 0)) := Lib.hid (hU.out.congr fun s _ => nS_up A j i s)
            clear hU
            go_wp2
            exact ⟨⟨i + 1, by omega, by go_num, HU3, hI, hT⟩, by simp [intOf]; omega⟩
      · obtain rfl : i = n := by omega
        have HS := Lib.hid (brow_slw (lo := w.heap.size) hU.out (by omega))
        clear hU
        go_wp2
        exact bodyPost_ret (v := .tuple #[.slice (some ⟨w2.heap.size, 0, none⟩) i i, .int .i64 0]) (by simp [results, Tryz.results20, go_sem]) rfl ⟨_, rfl, HS.out, hT.out⟩
end Go.Proofs.YtcafoppnnlfmmaaGreatDoor
