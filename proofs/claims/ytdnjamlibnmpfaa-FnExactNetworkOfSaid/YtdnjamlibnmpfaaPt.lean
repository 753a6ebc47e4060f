/- listOf[T].put through a pointer into any block of cells. -/
import Derived.Test.YtdnjamlibnmpfaaTn0
import Derived.Test.YtdnjamlibnmpfaaMg1
namespace Go.Proofs.Ytdnjamlibnmpfaa
open Go.ChangeShapes Go.WideShapes Go.ChangeAt Go.RowKit Go.Joins Go.Deep
set_option linter.unusedVariables false
set_option linter.unusedSimpArgs false
/-- but for a block and the row of a slice all is as it was -/
structure KeptP (w w' : World) (P : Nat) (v : Value) : Prop where
  os : w'.os = w.os
  tape : w'.tape = w.tape
  output : w'.output = w.output
  size : w.heap.size ≤ w'.heap.size
  block : ∀ k, k < w.heap.size → k ≠ P → v.ownBlock ≠ some k → w'.heap[k]? = w.heap[k]?
set_option maxRecDepth 100000 in
set_option maxHeartbeats 4000000 in
theorem putN_at (P o base : Nat) (cs : Array Value) (T : TypeId) (v : Value) (acc : List Nd) (t : Nd) (w : World) (hP : w.heap[P]? = some (.cells cs T (0, 0))) (ho : cs[o]? = some v) (hT : T ≠ 48) (hown : w.ownsRow base 48 3 v acc.length (flatNd acc)) (hbase : base ≤ w.heap.size) (hlen : acc.length ≤ 1000) :
    Calls Try.prog 25 #[.pointer (some ⟨P, o, none⟩), .agg #[.int .i8 t.kind, .int .i16 t.a, .int .i16 t.b]] w fun e w' => e = .returned (.int .i16 acc.length) ∧
      (∃ v', w'.heap[P]? = some (.cells (cs.setIfInBounds o v') T (0, 0)) ∧ w'.ownsRow base 48 3 v' (acc ++ [t]).length (flatNd (acc ++ [t]))) ∧ KeptP w w' P v := by
  obtain ⟨i0, hi0, hz0, hzz1, hzz2⟩ := info_parts info_NdL
  have Hi := Lib.hid hi0
  have Hz0 := Lib.hid hz0
  have Hz1 := Lib.hid hzz1
  have Hz2 := Lib.hid hzz2
  have hPl := blk_lt hP
  have hne0 := row_block hown hP hT
  obtain ⟨tk, ta, tb⟩ := t
  obtain ⟨va, vc, rfl⟩ := owns_slice hown
  obtain ⟨W, hW⟩ : ∃ W, w.alloc (.cells #[.int .i8 tk, .int .i16 ta, .int .i16 tb] 48) = W := ⟨_, rfl⟩
  have kW : Below w.heap.size w W := by rw [← hW]; exact kAlloc (Below.refl _ _) _
  have bX : W.heap[w.heap.size]? = some (.cells #[.int .i8 tk, .int .i16 ta, .int .i16 tb] 48 (0, 0)) := by rw [← hW]; exact heap_alloc_new _ _
  have hP1 := blk_below hP kW
  have hown1 := owns_below hown kW
  have hblk0 : ∀ k, (Value.slice va acc.length vc).ownBlock = some k → base ≤ k ∧ k < w.heap.size := owns_block hown
  have HK := Lib.hid kW
  have HW := Lib.hid hW
  obtain ⟨X, hX⟩ : ∃ X, w.heap.size = X := ⟨_, rfl⟩
  have HX := Lib.hid (Nat.le_of_eq hX)
  rw [hX] at bX hbase hPl hblk0
  clear hP hown kW hW hi0 hz0 hzz1 hzz2
  have x0 : W.cell? ⟨X, 0, none⟩ = some (.int .i8 tk) := cell_of_row _ _ 0 _ _ _ bX
  have x1 : W.cell? ⟨X, 1, none⟩ = some (.int .i16 ta) := cell_of_row _ _ 1 _ _ _ bX
  have x2 : W.cell? ⟨X, 2, none⟩ = some (.int .i16 tb) := cell_of_row _ _ 2 _ _ _ bX
  have lX := blk_lt bX
  have HBX := Lib.hid bX
  clear bX
  have c1 : W.cell? ⟨P, o, none⟩ = some (.slice va acc.length vc) := (cell_of_row _ _ o _ _ _ hP1).trans ho
  have lP := blk_lt hP1
  have Hown := Lib.hid hown1
  have Hblk := Lib.hid hblk0
  have HP := Lib.hid hP1
  have HO := Lib.hid ho
  have HNE := Lib.hid hne0
  obtain ⟨m, hm⟩ : ∃ m, acc.length = m := ⟨_, rfl⟩
  have Hm := Lib.hid hm
  rw [hm] at Hown Hblk c1 hlen HNE HO ⊢
  clear hP1 hown1 hm hblk0 hne0 ho
  go_enter Try.func25, Try.ntmps25
  go_upto_region 1 with fail
  try rw [HW.out]
  try rw [hX]
  clear HW hX
  have HD := Lib.hid (show Below W.heap.size W (W.alloc (.cells #[.int .i8 tk, .int .i16 ta, .int .i16 tb] 48)).drew from Below.drew (kAlloc (Below.refl _ _) _))
  have hbX := Nat.le_trans (Nat.le_trans hbase (Nat.le_of_lt lX)) HD.out.size
  have hml : m + 1 ≤ maxLen := by unfold maxLen; omega
  have hmb : (m + 1) * 6 ≤ 140737488355328 := by omega
  go_region_law
    (first
    | (refine step_append_own rfl _ _ 52 rfl base 48 i0 _ 3 6 Try.underlying52 Hi.out Hz0.out Hz1.out Hz2.out rfl (by decide) (.slice va m vc) m (flatNd acc) rfl (owns_below Hown.out HD.out) ⟨W.heap.size, 0, none⟩ 1 1 [.int .i8 tk, .int .i16 ta, .int .i16 tb] rfl rfl (fun j u hu => World.news_of_block (w := (W.alloc (.cells #[.int .i8 tk, .int .i16 ta, .int .i16 tb] 48)).drew) (cs := #[.int .i8 tk, .int .i16 ta, .int .i16 tb]) (heap_alloc_new W _) j u hu) (by simp [Value.oneCell']) hml hmb hbX ?_
       intro v6 w6 hown6 hgr hnil
       have HBX6 : w6.heap[X]? = some (.cells #[.int .i8 tk, .int .i16 ta, .int .i16 tb] 48 (0, 0)) := (hgr.block X (Nat.lt_of_lt_of_le lX HD.out.size) (fun e => by have := (Hblk.out X e.symm).2; omega)).trans (blk_below HBX.out HD.out)
       have x0 : w6.cell? ⟨X, 0, none⟩ = some (.int .i8 tk) := cell_of_row _ _ 0 _ _ _ HBX6
       have x1 : w6.cell? ⟨X, 1, none⟩ = some (.int .i16 ta) := cell_of_row _ _ 1 _ _ _ HBX6
       have x2 : w6.cell? ⟨X, 2, none⟩ = some (.int .i16 tb) := cell_of_row _ _ 2 _ _ _ HBX6
       have hO6 : w6.heap[P]? = some (.cells cs T (0, 0)) := (hgr.block P (Nat.lt_of_lt_of_le lP HD.out.size) (fun e => HNE.out e.symm)).trans (blk_below HP.out HD.out)
       have Hown6 := Lib.hid (show w6.ownsRow base 48 3 v6 (acc ++ [(⟨tk, ta, tb⟩ : Nd)]).length (flatNd (acc ++ [⟨tk, ta, tb⟩])) by rw [flatNd_end, List.length_append, Hm.out]; exact hown6)
       have f6 : w6.frozen? ⟨P, o, none⟩ = false := frozen_of_row _ _ o _ _ hO6
       have c1 : w6.cell? ⟨P, o, none⟩ = some (.slice va m vc) := (cell_of_row _ _ o _ _ _ hO6).trans HO.out
       have hl6 := blk_lt hO6
       have HF6 := Lib.hid (fun k (hk : k < W.heap.size) (hv : (Value.slice va m vc).ownBlock ≠ some k) => (hgr.block k (Nat.lt_of_lt_of_le hk HD.out.size) (fun e => hv e.symm)).trans (HD.out.block k hk))
       have HE6 := Lib.hid (show w6.os = W.os ∧ w6.tape = W.tape ∧ w6.output = W.output ∧ W.heap.size ≤ w6.heap.size from ⟨hgr.os.trans HD.out.os, hgr.tape.trans HD.out.tape, hgr.output.trans HD.out.output, Nat.le_trans HD.out.size hgr.size⟩)
       have HO6 := Lib.hid hO6
       obtain ⟨ua, uc, rfl⟩ := owns_slice Hown6.out
       have hal : (acc ++ [(⟨tk, ta, tb⟩ : Nd)]).length = m + 1 := by rw [List.length_append, Hm.out]; rfl
       have Hal := Lib.hid hal
       rw [hal] at Hown6 ⊢
       clear hown6 hgr hnil hO6 hal HBX6))
  all_goals
    have hm16 : IntKind.i16.wrap (m : Int) = m := IntWalk.i16_in _ (by omega)
    go_wp2
    go_ret
    refine ⟨rfl, ⟨.slice ua (m + 1) uc, blk_set_same' (i := o) (v := .slice ua (m + 1) uc) HO6.out, ?_⟩, ?_⟩
    · rw [Hal.out]
      exact owns_set_far Hown6.out HO6.out hT o _
    · refine ⟨HE6.out.1.trans HK.out.os, HE6.out.2.1.trans HK.out.tape, HE6.out.2.2.1.trans HK.out.output, by simpa [World.setCell] using Nat.le_trans HK.out.size HE6.out.2.2.2, fun k hk hkP hkv => ?_⟩
      exact (Below.heap_setCell w6 _ _ _ hkP).trans ((HF6.out k (Nat.lt_of_lt_of_le (by have := HX.out; omega) HK.out.size) hkv).trans (HK.out.block k (by have := HX.out; omega)))
set_option maxRecDepth 100000 in
set_option maxHeartbeats 4000000 in
theorem putU_at (P o base : Nat) (cs : Array Value) (T : TypeId) (v : Value) (acc : List Int) (t : Int) (w : World) (hP : w.heap[P]? = some (.cells cs T (0, 0))) (ho : cs[o]? = some v) (hT : T ≠ 39) (hown : w.ownsRow base 39 1 v acc.length (flatUs acc)) (hbase : base ≤ w.heap.size) (hlen : acc.length ≤ 1000) :
    Calls Try.prog 76 #[.pointer (some ⟨P, o, none⟩), .int .u64 t] w fun e w' => e = .returned (.int .i16 acc.length) ∧
      (∃ v', w'.heap[P]? = some (.cells (cs.setIfInBounds o v') T (0, 0)) ∧ w'.ownsRow base 39 1 v' (acc ++ [t]).length (flatUs (acc ++ [t]))) ∧ KeptP w w' P v := by
  obtain ⟨i0, hi0, hz0, hzz1, hzz2⟩ := info_parts info_u64m
  have Hi := Lib.hid hi0
  have Hz0 := Lib.hid hz0
  have Hz1 := Lib.hid hzz1
  have Hz2 := Lib.hid hzz2
  have hPl := blk_lt hP
  have hne0 := row_block hown hP hT
  obtain ⟨va, vc, rfl⟩ := owns_slice hown
  obtain ⟨W, hW⟩ : ∃ W, w = W := ⟨_, rfl⟩
  have kW : Below w.heap.size w W := by rw [← hW]; exact Below.refl _ _
  have hP1 := blk_below hP kW
  have hown1 := owns_below hown kW
  have hblk0 : ∀ k, (Value.slice va acc.length vc).ownBlock = some k → base ≤ k ∧ k < w.heap.size := owns_block hown
  have HK := Lib.hid kW
  have hbW : base ≤ W.heap.size := by rw [← hW]; exact hbase
  subst hW
  clear hP hown kW hi0 hz0 hzz1 hzz2
  have c1 : w.cell? ⟨P, o, none⟩ = some (.slice va acc.length vc) := (cell_of_row _ _ o _ _ _ hP1).trans ho
  have lP := blk_lt hP1
  have Hown := Lib.hid hown1
  have Hblk := Lib.hid hblk0
  have HP := Lib.hid hP1
  have HO := Lib.hid ho
  have HNE := Lib.hid hne0
  obtain ⟨m, hm⟩ : ∃ m, acc.length = m := ⟨_, rfl⟩
  have Hm := Lib.hid hm
  rw [hm] at Hown Hblk c1 hlen HNE HO ⊢
  clear hP1 hown1 hm hblk0 hne0 ho
  go_enter Try.func76, Try.ntmps76
  have HD := Lib.hid (show Below w.heap.size w (w.alloc (.cells #[.int .u64 t] 39)) from kAlloc (Below.refl _ _) _)
  go_wp2_with (at_builtin; refine wpList_append_own _ rfl _ _ 104 rfl base 39 i0 _ 1 8 Try.underlying104 Hi.out Hz0.out Hz1.out Hz2.out rfl (by decide) (.slice va m vc) m (flatUs acc) rfl (owns_below Hown.out HD.out) ⟨w.heap.size, 0, none⟩ 1 1 [.int .u64 t] rfl rfl (World.news_of_block (cs := #[.int .u64 t]) (heap_alloc_new _ _)) (by simp [Value.oneCell']) ?qc4 ?qc5 ?qc6 ?_)
  case qc4 => unfold maxLen; omega
  case qc5 => omega
  case qc6 => simp; omega
  intro v6 w6 hown6 hgr hnil
  have hO6 : w6.heap[P]? = some (.cells cs T (0, 0)) := (hgr.block P (Nat.lt_of_lt_of_le lP HD.out.size) (fun e => HNE.out e.symm)).trans (blk_below HP.out HD.out)
  have Hown6 := Lib.hid (show w6.ownsRow base 39 1 v6 (acc ++ [(t : Int)]).length (flatUs (acc ++ [t])) by rw [flatUs_end, List.length_append, Hm.out]; exact hown6)
  have f6 : w6.frozen? ⟨P, o, none⟩ = false := frozen_of_row _ _ o _ _ hO6
  clear c1
  have c1 : w6.cell? ⟨P, o, none⟩ = some (.slice va m vc) := (cell_of_row _ _ o _ _ _ hO6).trans HO.out
  have hl6 := blk_lt hO6
  have HF6 := Lib.hid (fun k (hk : k < w.heap.size) (hv : (Value.slice va m vc).ownBlock ≠ some k) => (hgr.block k (Nat.lt_of_lt_of_le hk HD.out.size) (fun e => hv e.symm)).trans (HD.out.block k hk))
  have HE6 := Lib.hid (show w6.os = w.os ∧ w6.tape = w.tape ∧ w6.output = w.output ∧ w.heap.size ≤ w6.heap.size from ⟨hgr.os.trans HD.out.os, hgr.tape.trans HD.out.tape, hgr.output.trans HD.out.output, Nat.le_trans HD.out.size hgr.size⟩)
  have HO6 := Lib.hid hO6
  obtain ⟨ua, uc, rfl⟩ := owns_slice Hown6.out
  have hal : (acc ++ [(t : Int)]).length = m + 1 := by rw [List.length_append, Hm.out]; rfl
  have Hal := Lib.hid hal
  rw [hal] at Hown6 ⊢
  clear hown6 hgr hnil hO6 hal
  all_goals
    have hm16 : IntKind.i16.wrap (m : Int) = m := IntWalk.i16_in _ (by omega)
    go_wp2
    go_ret
    refine ⟨rfl, ⟨.slice ua (m + 1) uc, blk_set_same' (i := o) (v := .slice ua (m + 1) uc) HO6.out, ?_⟩, ?_⟩
    · rw [Hal.out]
      exact owns_set_far Hown6.out HO6.out hT o _
    · refine ⟨HE6.out.1.trans HK.out.os, HE6.out.2.1.trans HK.out.tape, HE6.out.2.2.1.trans HK.out.output, by simpa [World.setCell] using Nat.le_trans HK.out.size HE6.out.2.2.2, fun k hk hkP hkv => ?_⟩
      exact (Below.heap_setCell w6 _ _ _ hkP).trans ((HF6.out k (Nat.lt_of_lt_of_le hk HK.out.size) hkv).trans (HK.out.block k hk))
set_option maxRecDepth 100000 in
set_option maxHeartbeats 4000000 in
theorem putS_at (P o base : Nat) (cs : Array Value) (T : TypeId) (v : Value) (acc : List Int) (t : Int) (w : World) (hP : w.heap[P]? = some (.cells cs T (0, 0))) (ho : cs[o]? = some v) (hT : T ≠ 46) (hown : w.ownsRow base 46 1 v acc.length (flatSh acc)) (hbase : base ≤ w.heap.size) (hlen : acc.length ≤ 1000) :
    Calls Try.prog 24 #[.pointer (some ⟨P, o, none⟩), .int .i16 t] w fun e w' => e = .returned (.int .i16 acc.length) ∧
      (∃ v', w'.heap[P]? = some (.cells (cs.setIfInBounds o v') T (0, 0)) ∧ w'.ownsRow base 46 1 v' (acc ++ [t]).length (flatSh (acc ++ [t]))) ∧ KeptP w w' P v := by
  obtain ⟨i0, hi0, hz0, hzz1, hzz2⟩ := info_parts info_i16n
  have Hi := Lib.hid hi0
  have Hz0 := Lib.hid hz0
  have Hz1 := Lib.hid hzz1
  have Hz2 := Lib.hid hzz2
  have hPl := blk_lt hP
  have hne0 := row_block hown hP hT
  obtain ⟨va, vc, rfl⟩ := owns_slice hown
  obtain ⟨W, hW⟩ : ∃ W, w = W := ⟨_, rfl⟩
  have kW : Below w.heap.size w W := by rw [← hW]; exact Below.refl _ _
  have hP1 := blk_below hP kW
  have hown1 := owns_below hown kW
  have hblk0 : ∀ k, (Value.slice va acc.length vc).ownBlock = some k → base ≤ k ∧ k < w.heap.size := owns_block hown
  have HK := Lib.hid kW
  have hbW : base ≤ W.heap.size := by rw [← hW]; exact hbase
  subst hW
  clear hP hown kW hi0 hz0 hzz1 hzz2
  have c1 : w.cell? ⟨P, o, none⟩ = some (.slice va acc.length vc) := (cell_of_row _ _ o _ _ _ hP1).trans ho
  have lP := blk_lt hP1
  have Hown := Lib.hid hown1
  have Hblk := Lib.hid hblk0
  have HP := Lib.hid hP1
  have HO := Lib.hid ho
  have HNE := Lib.hid hne0
  obtain ⟨m, hm⟩ : ∃ m, acc.length = m := ⟨_, rfl⟩
  have Hm := Lib.hid hm
  rw [hm] at Hown Hblk c1 hlen HNE HO ⊢
  clear hP1 hown1 hm hblk0 hne0 ho
  go_enter Try.func24, Try.ntmps24
  have HD := Lib.hid (show Below w.heap.size w (w.alloc (.cells #[.int .i16 t] 46)) from kAlloc (Below.refl _ _) _)
  go_wp2_with (at_builtin; refine wpList_append_own _ rfl _ _ 54 rfl base 46 i0 _ 1 2 Try.underlying54 Hi.out Hz0.out Hz1.out Hz2.out rfl (by decide) (.slice va m vc) m (flatSh acc) rfl (owns_below Hown.out HD.out) ⟨w.heap.size, 0, none⟩ 1 1 [.int .i16 t] rfl rfl (World.news_of_block (cs := #[.int .i16 t]) (heap_alloc_new _ _)) (by simp [Value.oneCell']) ?qc4 ?qc5 ?qc6 ?_)
  case qc4 => unfold maxLen; omega
  case qc5 => omega
  case qc6 => simp; omega
  intro v6 w6 hown6 hgr hnil
  have hO6 : w6.heap[P]? = some (.cells cs T (0, 0)) := (hgr.block P (Nat.lt_of_lt_of_le lP HD.out.size) (fun e => HNE.out e.symm)).trans (blk_below HP.out HD.out)
  have Hown6 := Lib.hid (show w6.ownsRow base 46 1 v6 (acc ++ [(t : Int)]).length (flatSh (acc ++ [t])) by rw [flatSh_end, List.length_append, Hm.out]; exact hown6)
  have f6 : w6.frozen? ⟨P, o, none⟩ = false := frozen_of_row _ _ o _ _ hO6
  clear c1
  have c1 : w6.cell? ⟨P, o, none⟩ = some (.slice va m vc) := (cell_of_row _ _ o _ _ _ hO6).trans HO.out
  have hl6 := blk_lt hO6
  have HF6 := Lib.hid (fun k (hk : k < w.heap.size) (hv : (Value.slice va m vc).ownBlock ≠ some k) => (hgr.block k (Nat.lt_of_lt_of_le hk HD.out.size) (fun e => hv e.symm)).trans (HD.out.block k hk))
  have HE6 := Lib.hid (show w6.os = w.os ∧ w6.tape = w.tape ∧ w6.output = w.output ∧ w.heap.size ≤ w6.heap.size from ⟨hgr.os.trans HD.out.os, hgr.tape.trans HD.out.tape, hgr.output.trans HD.out.output, Nat.le_trans HD.out.size hgr.size⟩)
  have HO6 := Lib.hid hO6
  obtain ⟨ua, uc, rfl⟩ := owns_slice Hown6.out
  have hal : (acc ++ [(t : Int)]).length = m + 1 := by rw [List.length_append, Hm.out]; rfl
  have Hal := Lib.hid hal
  rw [hal] at Hown6 ⊢
  clear hown6 hgr hnil hO6 hal
  all_goals
    have hm16 : IntKind.i16.wrap (m : Int) = m := IntWalk.i16_in _ (by omega)
    go_wp2
    go_ret
    refine ⟨rfl, ⟨.slice ua (m + 1) uc, blk_set_same' (i := o) (v := .slice ua (m + 1) uc) HO6.out, ?_⟩, ?_⟩
    · rw [Hal.out]
      exact owns_set_far Hown6.out HO6.out hT o _
    · refine ⟨HE6.out.1.trans HK.out.os, HE6.out.2.1.trans HK.out.tape, HE6.out.2.2.1.trans HK.out.output, by simpa [World.setCell] using Nat.le_trans HK.out.size HE6.out.2.2.2, fun k hk hkP hkv => ?_⟩
      exact (Below.heap_setCell w6 _ _ _ hkP).trans ((HF6.out k (Nat.lt_of_lt_of_le hk HK.out.size) hkv).trans (HK.out.block k hk))
end Go.Proofs.Ytdnjamlibnmpfaa
