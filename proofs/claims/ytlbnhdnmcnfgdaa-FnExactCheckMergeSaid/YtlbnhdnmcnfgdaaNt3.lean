/- Networks: the tables of all nodes; both sides. -/
import Derived.Test.YtlbnhdnmcnfgdaaNt2
namespace Go.Proofs.Ytlbnhdnmcnfgdaa
open Go.ChangeShapes Go.WideShapes Go.ChangeAt Go.RowKit Go.Joins Go.Deep
set_option linter.unusedVariables false
set_option linter.unusedSimpArgs false

theorem info_u64 : (Try.prog.info? 91).map (fun i => (i.zero, i.size, i.bytes)) = some (some (.int .u64 0), 1, 8) := by kernel_rfl
set_option maxRecDepth 100000 in
set_option maxHeartbeats 4000000 in
theorem putU_any (P n base : Nat) (v : Value) (acc : List Int) (t : Int) (w : World) (hP : w.heap[P]? = some (.cells #[.int .i8 n, v] 132 (0, 0))) (hown : w.ownsRow base 91 1 v acc.length (flatUs acc)) (hPb : P < base) (hbase : base ≤ w.heap.size) (hlen : acc.length ≤ 100) :
    Calls Try.prog 95 #[.pointer (some ⟨P, 1, none⟩), .int .u64 t] w fun e w' => e = .returned (.int .i16 acc.length) ∧
      (∃ v', w'.heap[P]? = some (.cells #[.int .i8 n, v'] 132 (0, 0)) ∧ w'.ownsRow base 91 1 v' (acc ++ [t]).length (flatUs (acc ++ [t]))) ∧ Below P w w' := by
  obtain ⟨i0, hi0, hz0, hzz1, hzz2⟩ := info_parts info_u64
  have Hi := Lib.hid hi0
  have Hz0 := Lib.hid hz0
  have Hz1 := Lib.hid hzz1
  have Hz2 := Lib.hid hzz2
  have hPl := blk_lt hP
  have c1 : w.cell? ⟨P, 1, none⟩ = some v := cell_of_row _ _ 1 _ _ _ hP
  obtain ⟨va, vc, rfl⟩ := owns_slice hown
  have Hown := Lib.hid hown
  have Hblk := Lib.hid (owns_block hown)
  have HP := Lib.hid hP
  obtain ⟨m, hm⟩ : ∃ m, acc.length = m := ⟨_, rfl⟩
  have Hm := Lib.hid hm
  rw [hm] at Hown Hblk c1 HP hlen ⊢
  clear hi0 hz0 hzz1 hzz2 hP hown hm
  go_enter Try.func95, Try.ntmps95
  go_wp2_with (at_builtin; refine wpList_append_own _ rfl _ _ 130 rfl base 91 i0 _ 1 8 Try.underlying130 Hi.out Hz0.out Hz1.out Hz2.out rfl (by decide) (.slice va m vc) m (flatUs acc) rfl (owns_below Hown.out (by repeat (first | with_reducible exact Below.refl _ _ | (with_reducible refine kSet ?_ ?hB _; case hB => (simp; try omega)) | with_reducible refine kAlloc ?_ _ | with_reducible refine Below.drew ?_ | with_reducible refine kDrewN ?_ _ | with_reducible refine kTrans ?_ (by assumption)))) ⟨w.heap.size, 0, none⟩ 1 1 [.int .u64 t] rfl rfl (World.news_of_block (cs := #[.int .u64 t]) (heap_alloc_new _ _)) (by simp [Value.oneCell']) ?qc4 ?qc5 ?qc6 ?_)
  case qc4 => unfold maxLen; omega
  case qc5 => omega
  case qc6 => simp; omega
  intro v6 w6 hown6 hgr hnil
  have hne : (Value.slice va m vc).ownBlock ≠ some P := fun e => by have := (Hblk.out P e).1; omega
  have hP6 : w6.heap[P]? = some (.cells #[.int .i8 n, .slice va m vc] 132 (0, 0)) := (hgr.block P (by simp; omega) (fun e => hne e.symm)).trans (blk_below HP.out (kAlloc (Below.refl _ _) _))
  have f6 : w6.frozen? ⟨P, 1, none⟩ = false := frozen_of_row _ _ 1 _ _ hP6
  have d6 : w6.cell? ⟨P, 1, none⟩ = some (.slice va m vc) := cell_of_row _ _ 1 _ _ _ hP6
  have hl6 := blk_lt hP6
  have Hown6 := Lib.hid (show w6.ownsRow base 91 1 v6 (acc ++ [t]).length (flatUs (acc ++ [t])) by rw [flatUs_end, List.length_append, Hm.out]; exact hown6)
  have B6 : Below P w w6 := (((kAlloc (Below.refl w.heap.size w) _).mono (Nat.le_of_lt hPl)).grown hgr (by simp; omega) (fun k hk => by have := (Hblk.out k hk).1; omega))
  obtain ⟨ua, uc, rfl⟩ := owns_slice Hown6.out
  have HP6 := Lib.hid hP6
  have hm16 : IntKind.i16.wrap (m : Int) = m := IntWalk.i16_in _ (by omega)
  have hal : (acc ++ [t]).length = m + 1 := by rw [List.length_append, Hm.out]; rfl
  have Hal := Lib.hid hal
  rw [hal] at Hown6 ⊢
  clear hown6 hgr hnil hP6 c1 Hown hal
  go_wp2
  go_ret
  refine ⟨rfl, ⟨_, nBlk_set HP6.out, ?_⟩, ?_⟩
  · rw [Hal.out]
    exact owns_set_far (t := 132) Hown6.out HP6.out (by decide) 1 _
  · exact B6.setCell (Nat.le_refl _) _
set_option maxRecDepth 100000 in
set_option maxHeartbeats 8000000 in
theorem tables_any (n b k : Nat) (l : List Nd) (p : List Int) (w : World) (h : NK w b k l p) (hok : netOk n l p = true) :
    Calls Try.prog 65 #[.agg #[.int .i8 n, .slice (some ⟨b, 0, none⟩) l.length l.length, .slice (some ⟨k, 0, none⟩) p.length p.length]] w fun e w' => ∃ v, e = .returned v ∧ SlWUs w.heap.size w'.heap.size w' (tabsL n l []) v ∧ Below w.heap.size w w' := by
  have hn : 1 ≤ n ∧ n ≤ 6 := by have := (netOk_parts hok).1; omega
  have hl80 := (netOk_parts hok).2.1.2
  have HN := Lib.hid (fun i (hi : i < l.length) => netOk_node hok i hi)
  have HK := Lib.hid (fun W (hW : Below w.heap.size w W) => h.below hW)
  obtain ⟨N, hN⟩ : ∃ N, l.length = N := ⟨_, rfl⟩
  obtain ⟨q, hq⟩ : ∃ q, p.length = q := ⟨_, rfl⟩
  have Hn := Lib.hid hN
  obtain ⟨T, hT⟩ : ∃ T, tabsL n l [] = T := ⟨_, rfl⟩
  have HT : Hid (tabsL n (l.drop 0) [] = T) := Lib.hid hT
  rw [hN] at hl80 ⊢
  rw [hq, hT]
  have W0 : Hid ((((w.alloc (.cells #[.int .i8 n, .slice (some ⟨b, 0, none⟩) N N, .slice (some ⟨k, 0, none⟩) q q] 31)).alloc (.cells #[.int .i8 n, .slice none 0 0] 132)).heap[w.heap.size + 1]? = some (.cells #[.int .i8 n, .slice none 0 0] 132 (0, 0)))) := Lib.hid (by
    have h := nNew (w.alloc (.cells #[.int .i8 n, .slice (some ⟨b, 0, none⟩) N N, .slice (some ⟨k, 0, none⟩) q q] 31)) (.cells #[.int .i8 n, .slice none 0 0] 132)
    simpa only [World.size_alloc] using h)
  have ka : Below w.heap.size w ((w.alloc (.cells #[.int .i8 n, .slice (some ⟨b, 0, none⟩) N N, .slice (some ⟨k, 0, none⟩) q q] 31)).alloc (.cells #[.int .i8 n, .slice none 0 0] 132)) := by repeat (first | with_reducible exact Below.refl _ _ | (with_reducible refine kSet ?_ ?hB _; case hB => (simp; try omega)) | with_reducible refine kAlloc ?_ _ | with_reducible refine Below.drew ?_ | with_reducible refine kDrewN ?_ _ | with_reducible refine kTrans ?_ (by assumption))
  have own0 : Hid (((w.alloc (.cells #[.int .i8 n, .slice (some ⟨b, 0, none⟩) N N, .slice (some ⟨k, 0, none⟩) q q] 31)).alloc (.cells #[.int .i8 n, .slice none 0 0] 132)).ownsRow (w.heap.size + 2) 91 1 (.slice none 0 0) ([] : List Int).length (flatUs [])) := Lib.hid nilU_owns
  clear h hok hN hT hq
  go_enter Try.func65, Try.ntmps65
  go_wp2
  go_loopw [5, 12] (fun _ i wr => ∃ (j : Nat) (acc : List Int) (v : Value), j ≤ N ∧ i = .int .i64 j ∧ acc.length = j ∧ Hid (tabsL n (l.drop j) acc = T) ∧ Hid (wr.heap[w.heap.size + 1]? = some (.cells #[.int .i8 n, v] 132 (0, 0))) ∧ Hid (wr.ownsRow (w.heap.size + 2) 91 1 v acc.length (flatUs acc)) ∧ w.heap.size + 2 ≤ wr.heap.size ∧ Below w.heap.size w wr) (fun _ i _ => N - (intOf i).toNat)
  case atStart => exact ⟨0, [], _, by omega, rfl, rfl, HT, W0, own0, by simp, ka⟩
  case round =>
    clear HT W0 own0 ka
    obtain ⟨j, acc, v, hj, rfl, hacc, hf, hS, hown, hsz, hbr⟩ := hrel
    obtain ⟨va, vc, rfl⟩ := owns_slice hown.out
    have s0 : wr.cell? ⟨w.heap.size + 1, 0, none⟩ = some (.int .i8 n) := cell_of_row _ _ 0 _ _ _ hS.out
    have s1 : wr.cell? ⟨w.heap.size + 1, 1, none⟩ = some (.slice va acc.length vc) := cell_of_row _ _ 1 _ _ _ hS.out
    rw [hacc] at s1
    have ls := blk_lt hS.out
    by_cases hlt : j < N
    · have hlk : j < l.length := by rw [Hn.out]; exact hlt
      have hpa := (HK.out wr hbr).p0 j hlk
      have hd : l.drop j = l[j] :: l.drop (j + 1) := List.drop_eq_getElem_cons hlk
      have hno := HN.out j hlk
      generalize l[j] = x at hpa hd hno
      obtain ⟨a0, a1, a2⟩ := hpa
      simp only [Nat.zero_add] at a0 a1 a2
      have hq2 := hf.out
      rw [hd] at hq2
      have hF : Hid (tabsL n (l.drop (j + 1)) (acc ++ [tabOf n acc x]) = T) := Lib.hid hq2
      have kin : Below wr.heap.size wr (wr.alloc (.cells #[.int .i8 x.kind, .int .i16 x.a, .int .i16 x.b] 83)) := kAlloc (Below.refl _ _) _
      have Hno := Lib.hid hno
      have Hacc := Lib.hid hacc
      clear hq2 hd hf hno hacc
      go_wp2_with fail
      refine (tableOf_any n va j vc acc x _ hn Hacc.out (by omega) (by have := (slUs_of_owns hown.out).below kin; rw [Hacc.out] at this; exact this) Hno.out).mono ?_
      rintro e w2 ⟨rfl, hb2⟩
      have T2 := kTrans kin hb2
      have hS2 := blk_below hS.out T2
      have hown2 := owns_below hown.out T2
      have hs2 := T2.size
      have ls2 := blk_lt hS2
      have HP := Lib.hid (putU_any (w.heap.size + 1) n (w.heap.size + 2) _ acc (tabOf n acc x) w2 hS2 hown2 (by omega) (by omega) (by rw [Hacc.out]; omega))
      have T2w := kTrans hbr T2
      generalize tabOf n acc x = t at HP hF
      clear s0 s1 a0 a1 a2 hS2 hown2 hS hown hb2 T2 kin hbr
      go_wp2_with fail
      refine HP.out.mono ?_
      rintro e w3 ⟨rfl, ⟨v', hS3, hown3⟩, hb3⟩
      have hs3 := hb3.size
      have T3 : Below w.heap.size w w3 := T2w.trans (hb3.mono (by omega))
      have HS3 := Lib.hid hS3
      have HO3 := Lib.hid hown3
      have ha3 : (acc ++ [t]).length = j + 1 := by rw [List.length_append, Hacc.out]; rfl
      clear hS3 hown3 HP hb3
      go_wp2
      exact ⟨⟨j + 1, _, _, by omega, by go_num, ha3, hF, HS3, HO3, by omega, T3⟩, by simp [intOf]; omega⟩
    · obtain rfl : j = N := by omega
      have hTa : acc = T := by rw [← hf.out, List.drop_of_length_le (by rw [Hn.out]; omega)]; rfl
      subst hTa
      have HW := Lib.hid ((SlWUs.of_owns hown.out).mono (show w.heap.size ≤ w.heap.size + 2 by omega) (Nat.le_refl _))
      rw [hacc] at HW
      clear hf hS hown
      go_wp2
      go_ret
      exact ⟨_, rfl, HW.out, hbr⟩
end Go.Proofs.Ytlbnhdnmcnfgdaa
