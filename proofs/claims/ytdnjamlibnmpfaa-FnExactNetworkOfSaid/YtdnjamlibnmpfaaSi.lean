/- SimplifyNetwork, both sides. -/
import Derived.Test.YtdnjamlibnmpfaaMg1
import Derived.Test.YtdnjamlibnmpfaaMg2
import Derived.Test.YtdnjamlibnmpfaaTn
namespace Go.Proofs.Ytdnjamlibnmpfaa
open Go.ChangeShapes Go.WideShapes Go.ChangeAt Go.RowKit Go.Joins Go.Deep
set_option linter.unusedVariables false
set_option linter.unusedSimpArgs false
theorem nd_row {w : World} {base : Nat} {e : TypeId} {v : Value} {l : List Nd} (h : w.ownsRow base e 3 v l.length (flatNd l)) (h0 : 1 ≤ l.length) : ∃ g cap, v = .slice (some ⟨g, 0, none⟩) l.length cap ∧ NdsAt w g 0 l ∧ g < w.heap.size := by
  have hs := SlWNd.of_owns h
  obtain ⟨hl, h | ⟨g, cap, cur, hv, -⟩⟩ := h
  · exact absurd h.2 (by omega)
  · cases hs with
    | empty a c h => rw [h] at h0; exact absurd h0 (by decide)
    | mk b o c hc h1 h2 hb hf hl =>
      injection hv with e1 e2 e3
      injection e1 with e1
      injection e1 with e4 e5
      subst e5
      exact ⟨_, _, rfl, hc, hb⟩
theorem sh_row {w : World} {base : Nat} {e : TypeId} {v : Value} {l : List Int} (h : w.ownsRow base e 1 v l.length (flatSh l)) (h0 : 1 ≤ l.length) : ∃ g cap, v = .slice (some ⟨g, 0, none⟩) l.length cap ∧ ShsAt w g 0 l ∧ g < w.heap.size := by
  have hs := SlWSh.of_owns h
  obtain ⟨hl, h | ⟨g, cap, cur, hv, -⟩⟩ := h
  · exact absurd h.2 (by omega)
  · cases hs with
    | empty a c h => rw [h] at h0; exact absurd h0 (by decide)
    | mk b o c hc h1 h2 hb hf hl =>
      injection hv with e1 e2 e3
      injection e1 with e1
      injection e1 with e4 e5
      subst e5
      exact ⟨_, _, rfl, hc, hb⟩
/-- the network that SimplifyNetwork answers -/
def simT (n : Nat) (l : List Nd) (p : List Int) : List Nd × List Int :=
  let R := mgOf n l
  let L := pickP (atP R.P) p
  ((keptT R.M L).2, pickP (keptT R.M L).1 L)
set_option maxRecDepth 100000 in
set_option maxHeartbeats 4000000 in
theorem simplified_any (b k n cb ck : Nat) (l : List Nd) (p : List Int) (w : World) (h : NK w b k l p) (hok : netOk n l p = true) (S : List Nd × List Int) (hS : simT n l p = S) :
    Calls Try.prog 45 #[.agg #[.int .i8 n, .slice (some ⟨b, 0, none⟩) l.length cb, .slice (some ⟨k, 0, none⟩) p.length ck]] w fun e w' => ∃ v u, e = .returned (.agg #[.int .i8 n, v, u]) ∧ NwR w.heap.size w'.heap.size w' S.1 S.2 v u ∧ Below w.heap.size w w' := by
  obtain ⟨R, hR⟩ : ∃ R, mgOf n l = R := ⟨_, rfl⟩
  obtain ⟨L, hL⟩ : ∃ L, pickP (atP R.P) p = L := ⟨_, rfl⟩
  obtain ⟨P, K, hK⟩ : ∃ P K, keptT R.M L = (P, K) := ⟨_, _, rfl⟩
  have hok2 : netOk n R.M L = true := by rw [← hL, ← hR]; exact merge_ok hok
  have hSS : S = (K, pickP P L) := by rw [← hS]; unfold simT; simp only [hR, hL, hK]
  subst hSS
  have hMG := Lib.hid (fun W (hW : Below w.heap.size w W) => merged_any b k n cb ck l p W (h.below hW) hok R hR L hL)
  have hTM := Lib.hid (fun b' k' cb' ck' W (hn : NK W b' k' R.M L) => trimmed_any b' k' n cb' ck' R.M L W hn hok2 P K hK)
  have hp := netOk_parts hok2
  have hM1 : 1 ≤ R.M.length ∧ R.M.length ≤ 80 := by omega
  have hLl : 1 ≤ L.length ∧ L.length ≤ 8 := by omega
  obtain ⟨N, hN⟩ : ∃ N, l.length = N := ⟨_, rfl⟩
  obtain ⟨q, hq⟩ : ∃ q, p.length = q := ⟨_, rfl⟩
  rw [hN, hq] at hMG ⊢
  clear hR hL hK hS hp hok2 hok h hN hq
  obtain ⟨W0, hW⟩ : ∃ W0, (w.alloc (.cells #[.int .i8 n, .slice (some ⟨b, 0, none⟩) N cb, .slice (some ⟨k, 0, none⟩) q ck] 30)).alloc (.cells #[.int .i8 0, .slice none 0 0, .slice none 0 0] 30) = W0 := ⟨_, rfl⟩
  have k0 : Below w.heap.size w W0 := by rw [← hW]; exact kAlloc (kAlloc (Below.refl _ _) _) _
  have bX : W0.heap[w.heap.size]? = some (.cells #[.int .i8 n, .slice (some ⟨b, 0, none⟩) N cb, .slice (some ⟨k, 0, none⟩) q ck] 30 (0, 0)) := by rw [← hW]; exact (Below.heap_alloc _ _ _ (by simp)).trans (heap_alloc_new _ _)
  have bR : W0.heap[w.heap.size + 1]? = some (.cells #[.int .i8 0, .slice none 0 0, .slice none 0 0] 30 (0, 0)) := by rw [← hW]; exact heap_two _ _ _
  have lw := blk_lt bR
  have HBR := Lib.hid (fun W2 (h2 : Below W0.heap.size W0 W2) => blk_below bR h2)
  have HK0 := Lib.hid k0
  have HW := Lib.hid hW
  obtain ⟨x0, x1, x2⟩ := NwAt.of bX
  have hlx := blk_lt bX
  clear hW bX bR k0
  go_enter Try.func45, Try.ntmps45
  go_upto_region 1 with fail
  try rw [HW.out]
  go_wp2_with fail
  refine (hMG.out _ HK0.out).mono ?_
  rintro e w1 ⟨v, g2, pl, rfl, hv, hpl, ⟨hn2, hz2, -, -, -⟩, hb1⟩
  obtain ⟨g1, c1, rfl, hn1, hz1⟩ := nd_row hv hM1.1
  clear x0 x1 x2 HW
  clear hv hpl
  have HNK := Lib.hid (show NK w1 g1 g2 R.M L from ⟨hn1, hn2, hz1, hz2⟩)
  obtain ⟨W2, hW2⟩ : ∃ W2, w1.alloc (.cells #[.int .i8 n, .slice (some ⟨g1, 0, none⟩) R.M.length c1, .slice (some ⟨g2, 0, none⟩) L.length L.length] 30) = W2 := ⟨_, rfl⟩
  have k2 : Below w1.heap.size w1 W2 := by rw [← hW2]; exact kAlloc (Below.refl _ _) _
  have bM : W2.heap[w1.heap.size]? = some (.cells #[.int .i8 n, .slice (some ⟨g1, 0, none⟩) R.M.length c1, .slice (some ⟨g2, 0, none⟩) L.length L.length] 30 (0, 0)) := by rw [← hW2]; exact nNew _ _
  have HTC := Lib.hid (hTM.out g1 g2 c1 L.length _ (HNK.out.below k2))
  have HB1 := Lib.hid (kTrans hb1 k2)
  have HW2 := Lib.hid hW2
  clear hn1 hn2 hz1 hz2 HNK hTM hW2 hMG
  go_upto_region 2 with fail
  try rw [HW2.out]
  obtain ⟨z0, z1, z2⟩ := NwAt.of bM
  have lz := blk_lt bM
  have lz2 : w.heap.size ≤ w1.heap.size := by have h1 := HK0.out.size; have h2 := hb1.size; omega
  have hl2 := k2.size
  have HLW : Hid (w.heap.size + 1 < W2.heap.size) := Lib.hid (by have h1 := HB1.out.size; omega)
  clear k2 HW2
  go_wp2_with fail
  refine (HTC.out).mono ?_
  rintro e w3 ⟨v, u, rfl, hn, hb3⟩
  obtain ⟨va, vc, ua, uc, rfl, rfl⟩ := hn.form
  have rs_ := HBR.out _ (kTrans HB1.out hb3)
  have HT := Lib.hid (kTrans HK0.out (kTrans HB1.out hb3))
  have HNW := Lib.hid ((hn.out (keptRowN (g := w.heap.size + 1) (cs := #[.int .i8 (n : Int), .slice va K.length vc, .slice ua (pickP P L).length uc])) (.inr (by have := HLW.out; omega))).mono (show w.heap.size ≤ W2.heap.size by omega) (show w3.heap.size ≤ (w3.setRow (w.heap.size + 1) #[.int .i8 (n : Int), .slice va K.length vc, .slice ua (pickP P L).length uc]).heap.size by simp))
  clear z0 z1 z2 lz hn hb3 HTC bM HB1 hb1
  go_wp2_with (refine wpList_store_row rfl 30 _ _ rfl (w.heap.size + 1) #[.int .i8 (n : Int), .slice va K.length vc, .slice ua (pickP P L).length uc] rfl rfl 30 _ rs_ (by kernel_rfl) (by kernel_rfl) (by kernel_rfl) ?_)
  refine bodyPost_ret (v := .agg #[.int .i8 (n : Int), .slice va K.length vc, .slice ua (pickP P L).length uc]) (results_cell_row rfl _ _ (w.heap.size + 1) 30 #[.int .i8 (n : Int), .slice va K.length vc, .slice ua (pickP P L).length uc] (0, 0) _ rfl (setRow_heap _ _ _ _ _ _ rs_) Try.underlying30 rfl (by kernel_rfl)) rfl ?_
  exact ⟨_, _, rfl, HNW.out, kRowW HT.out (by omega) _⟩
set_option maxRecDepth 100000 in
set_option maxHeartbeats 4000000 in
theorem l04Simplify_anyC (n bb b k cb ck : Nat) (l : List Nd) (p : List Int) (w : World) (h0 : NwAt w bb n (.slice (some ⟨b, 0, none⟩) l.length cb) (.slice (some ⟨k, 0, none⟩) p.length ck)) (h : NK w b k l p) (hok : netOk n l p = true) (S : List Nd × List Int) (hS : simT n l p = S) :
    Calls Try.prog 40 #[.pointer (some ⟨bb, 0, none⟩)] w fun e w' => ∃ v u, e = .returned (.agg #[.int .i8 n, v, u]) ∧ NwR w.heap.size w'.heap.size w' S.1 S.2 v u ∧ Below w.heap.size w w' := by
  obtain ⟨R, hR⟩ : ∃ R, mgOf n l = R := ⟨_, rfl⟩
  obtain ⟨L, hL⟩ : ∃ L, pickP (atP R.P) p = L := ⟨_, rfl⟩
  obtain ⟨P, K, hK⟩ : ∃ P K, keptT R.M L = (P, K) := ⟨_, _, rfl⟩
  have hok2 : netOk n R.M L = true := by rw [← hL, ← hR]; exact merge_ok hok
  have hSS : S = (K, pickP P L) := by rw [← hS]; unfold simT; simp only [hR, hL, hK]
  subst hSS
  have hlb := h0.lt
  have hMG := Lib.hid (fun W (hW : Below w.heap.size w W) => by have h := l04Merge_anyC n bb b k cb ck l p W (h0.below hW hlb) (h.below hW) hok R hR; rw [hL] at h; exact h)
  have hTM := Lib.hid (fun bb' b' k' cb' ck' W (hx : NwAt W bb' n (.slice (some ⟨b', 0, none⟩) R.M.length cb') (.slice (some ⟨k', 0, none⟩) L.length ck')) (hn : NK W b' k' R.M L) => l04Trim_any n bb' b' k' cb' ck' R.M L W hx hn hok2 P K hK)
  have hp := netOk_parts hok2
  have hM1 : 1 ≤ R.M.length ∧ R.M.length ≤ 80 := by omega
  have hLl : 1 ≤ L.length ∧ L.length ≤ 8 := by omega
  clear hR hL hK hS hp hok2 hok h h0
  obtain ⟨W0, hW⟩ : ∃ W0, w.alloc (.cells #[.int .i8 0, .slice none 0 0, .slice none 0 0] 30) = W0 := ⟨_, rfl⟩
  have k0 : Below w.heap.size w W0 := by rw [← hW]; exact kAlloc (Below.refl _ _) _
  have bR : W0.heap[w.heap.size]? = some (.cells #[.int .i8 0, .slice none 0 0, .slice none 0 0] 30 (0, 0)) := by rw [← hW]; exact heap_alloc_new _ _
  have lw := blk_lt bR
  have HBR := Lib.hid (fun W2 (h2 : Below W0.heap.size W0 W2) => blk_below bR h2)
  have HK0 := Lib.hid k0
  have HW := Lib.hid hW
  clear hW bR k0
  go_enter Try.func40, Try.ntmps40
  go_upto_region 1 with fail
  try rw [HW.out]
  go_wp2_with fail
  refine (hMG.out _ HK0.out).mono ?_
  rintro e w1 ⟨v, u, pl, rfl, ⟨hv, hu, hpl⟩, hb1⟩
  obtain ⟨g1, c1, rfl, hn1, hz1⟩ := nd_row hv hM1.1
  obtain ⟨g2, c2, rfl, hn2, hz2⟩ := sh_row hu hLl.1
  clear HW
  clear hv hu hpl
  have HNK := Lib.hid (show NK w1 g1 g2 R.M L from ⟨hn1, hn2, hz1, hz2⟩)
  obtain ⟨W2, hW2⟩ : ∃ W2, w1.alloc (.cells #[.int .i8 n, .slice (some ⟨g1, 0, none⟩) R.M.length c1, .slice (some ⟨g2, 0, none⟩) L.length c2] 30) = W2 := ⟨_, rfl⟩
  have k2 : Below w1.heap.size w1 W2 := by rw [← hW2]; exact kAlloc (Below.refl _ _) _
  have bM : W2.heap[w1.heap.size]? = some (.cells #[.int .i8 n, .slice (some ⟨g1, 0, none⟩) R.M.length c1, .slice (some ⟨g2, 0, none⟩) L.length c2] 30 (0, 0)) := by rw [← hW2]; exact nNew _ _
  have HTC := Lib.hid (hTM.out w1.heap.size g1 g2 c1 c2 _ (NwAt.of bM) (HNK.out.below k2))
  have HB1 := Lib.hid (kTrans hb1 k2)
  have HW2 := Lib.hid hW2
  clear hn1 hn2 hz1 hz2 HNK hTM hW2 hMG
  go_upto_region 2 with fail
  try rw [HW2.out]
  obtain ⟨z0, z1, z2⟩ := NwAt.of bM
  have lz := blk_lt bM
  have lz2 : w.heap.size ≤ w1.heap.size := by have h1 := HK0.out.size; have h2 := hb1.size; omega
  have hl2 := k2.size
  have HLW : Hid (w.heap.size < W2.heap.size) := Lib.hid (by have h1 := HB1.out.size; omega)
  clear k2 HW2
  go_wp2_with fail
  refine (HTC.out).mono ?_
  rintro e w3 ⟨v, u, rfl, hn, hb3⟩
  obtain ⟨va, vc, ua, uc, rfl, rfl⟩ := hn.form
  have rs_ := HBR.out _ (kTrans HB1.out hb3)
  have HT := Lib.hid (kTrans HK0.out (kTrans HB1.out hb3))
  have HNW := Lib.hid ((hn.out (keptRowN (g := w.heap.size) (cs := #[.int .i8 (n : Int), .slice va K.length vc, .slice ua (pickP P L).length uc])) (.inr (by have := HLW.out; omega))).mono (show w.heap.size ≤ W2.heap.size by omega) (show w3.heap.size ≤ (w3.setRow (w.heap.size) #[.int .i8 (n : Int), .slice va K.length vc, .slice ua (pickP P L).length uc]).heap.size by simp))
  clear z0 z1 z2 lz hn hb3 HTC bM HB1 hb1
  go_wp2_with (refine wpList_store_row rfl 30 _ _ rfl (w.heap.size) #[.int .i8 (n : Int), .slice va K.length vc, .slice ua (pickP P L).length uc] rfl rfl 30 _ rs_ (by kernel_rfl) (by kernel_rfl) (by kernel_rfl) ?_)
  refine bodyPost_ret (v := .agg #[.int .i8 (n : Int), .slice va K.length vc, .slice ua (pickP P L).length uc]) (results_cell_row rfl _ _ (w.heap.size) 30 #[.int .i8 (n : Int), .slice va K.length vc, .slice ua (pickP P L).length uc] (0, 0) _ rfl (setRow_heap _ _ _ _ _ _ rs_) Try.underlying30 rfl (by kernel_rfl)) rfl ?_
  exact ⟨_, _, rfl, HNW.out, kRowW HT.out (by omega) _⟩
theorem l04Simplify_any (n bb b k : Nat) (l : List Nd) (p : List Int) (w : World) (h0 : NwAt w bb n (.slice (some ⟨b, 0, none⟩) l.length l.length) (.slice (some ⟨k, 0, none⟩) p.length p.length)) (h : NK w b k l p) (hok : netOk n l p = true) (S : List Nd × List Int) (hS : simT n l p = S) :
    Calls Try.prog 40 #[.pointer (some ⟨bb, 0, none⟩)] w fun e w' => ∃ v u, e = .returned (.agg #[.int .i8 n, v, u]) ∧ NwR w.heap.size w'.heap.size w' S.1 S.2 v u ∧ Below w.heap.size w w' :=
  l04Simplify_anyC n bb b k l.length p.length l p w h0 h hok S hS
theorem sim_fine {l : List Nd} {p : List Int} {ni : Int} (hok : netOk ni l p = true) : NwFine (simT ni.toNat l p).1 (simT ni.toNat l p).2 := by
  have hp0 := netOk_parts hok
  obtain ⟨n, rfl⟩ : ∃ n : Nat, ni = n := ⟨ni.toNat, by omega⟩
  rw [Int.toNat_natCast]
  have h := merge_ok hok
  have hp := netOk_parts h
  refine kept_fine h (fun x hx => ?_)
  obtain ⟨i, hi, rfl⟩ := List.getElem_of_mem hx
  have hc := nodeOk_cases (netOk_node h i hi)
  have hm : IntKind.i8.min = -128 := rfl
  have hM : IntKind.i8.max = 127 := rfl
  exact ⟨by have := hc; simp [Lit.wf, hm, hM]; omega, wf_i16 (by omega), wf_i16 (by omega)⟩
end Go.Proofs.Ytdnjamlibnmpfaa
