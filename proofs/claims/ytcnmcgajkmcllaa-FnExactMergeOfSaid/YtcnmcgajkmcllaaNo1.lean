/- OutputTables: both sides. -/
import Derived.Test.YtcnmcgajkmcllaaG21
namespace Go.Proofs.Ytcnmcgajkmcllaa
open Go.ChangeShapes Go.WideShapes Go.ChangeAt Go.RowKit Go.Joins Go.Deep
set_option linter.unusedVariables false
set_option linter.unusedSimpArgs false

/-- the tables at some places -/
def pickT (T : List Int) (p : List Int) : List Int := p.map fun x => T.getD x.toNat 0
theorem pickT_length (T p : List Int) : (pickT T p).length = p.length := by simp [pickT]
theorem pickT_get (T p : List Int) (i : Nat) (h : i < (pickT T p).length) (h' : i < p.length) : (pickT T p)[i] = T.getD (p[i]).toNat 0 := by simp [pickT]
theorem pickT_drop (T p : List Int) (j : Nat) (h : j < p.length) : pickT T (p.drop j) = T.getD (p[j]).toNat 0 :: pickT T (p.drop (j + 1)) := by rw [List.drop_eq_getElem_cons h]; rfl
theorem pickT_wf {T p : List Int} (h : UssWf T) : UssWf (pickT T p) := by
  intro x hx
  obtain ⟨y, _, rfl⟩ := List.mem_map.1 hx
  by_cases hy : y.toNat < T.length
  · rw [getD_at hy]; exact h _ (List.getElem_mem hy)
  · rw [List.getD_eq_getElem?_getD, List.getElem?_eq_none (by omega)]; decide
theorem slUs_someN {w : World} {T : List Int} {va : Option Addr} {vc N : Nat} (h : SlUs w T (.slice va N vc)) (h0 : 0 < T.length) : ∃ g o, va = some ⟨g, o, none⟩ ∧ UssAt w g o T ∧ g < w.heap.size ∧ T.length ≤ vc ∧ N = T.length := by
  generalize hv : Value.slice va N vc = v at h
  cases h with
  | empty _ _ h => rw [h] at h0; simp at h0
  | mk g o c h1 h2 h3 => cases hv; exact ⟨_, _, rfl, h1, h2, h3, rfl⟩
set_option maxRecDepth 100000 in
set_option maxHeartbeats 4000000 in
theorem itemsU_any (g o N vc k q : Nat) (T p : List Int) (w : World) (hT : T.length = N) (hc : UssAt w g o T) (hg : g < w.heap.size) (hcap : N ≤ vc) (hp : ShsAt w k 0 p) (hk : k < w.heap.size) (hq : p.length = q) (hN : N ≤ 80) (hq8 : q ≤ 8) (hr : ∀ x ∈ p, 0 ≤ x ∧ x < N) (L : List Int) (hL : pickT T p = L) :
    Calls Try.prog 86 #[.slice (some ⟨g, o, none⟩) N vc, .slice (some ⟨k, 0, none⟩) q q] w fun e w' => ∃ v, e = .returned v ∧ SlWUs w.heap.size w'.heap.size w' L v ∧ Below w.heap.size w w' := by
  obtain ⟨i0, hi, hz0, hz1, hz2⟩ := info_parts info_u64
  have HT := Lib.hid hT
  have Hq := Lib.hid hq
  have HR := Lib.hid hr
  have HLt := Lib.hid (show L.length = q by rw [← hL, pickT_length, hq])
  have HLg : Hid (∀ (i : Nat) (h : i < L.length) (h' : i < p.length), L[i] = T.getD (p[i]).toNat 0) := Lib.hid (by subst hL; exact fun i h h' => pickT_get T p i h h')
  clear hT hq hr hL
  go_enter Try.func86, Try.ntmps86
  go_wp2_with (refine wpList_make_full _ rfl _ _ 66 rfl w.heap.size 47 i0 _ 1 Try.underlying66 hi hz0 hz1 _ _ _ _ q rfl rfl rfl rfl ?c1 ?c2 ?c3 ?_)
  case c1 => rw [hz2]; omega
  case c2 => unfold maxLen; omega
  case c3 => exact Nat.le_refl _
  intro w1 hown hgr
  have hF : FilledUs w1 w.heap.size 0 q L 0 := FilledUs.made (w' := w) (v := .int .u64 0) hown
  have hB : Below w.heap.size w w1 := (Below.refl _ _).grown hgr (Nat.le_refl _) (by intro k hk; cases hk)
  have HF := Lib.hid hF
  clear hown hgr hz0 hz1 hz2 hi i0 hF
  go_wp2
  go_loopw [6, 7, 13] (fun _ _ i wr => ∃ j : Nat, j ≤ q ∧ i = .int .i64 j ∧ Hid (FilledUs wr w.heap.size 0 q L j) ∧ Below w.heap.size w wr) (fun _ _ i _ => q - (intOf i).toNat)
  case atStart => exact ⟨0, by omega, rfl, HF, hB⟩
  case round =>
    clear HF hB
    obtain ⟨j, hj, rfl, hf, hbr⟩ := hrel
    by_cases hlt : j < q
    · have hlk : j < p.length := by rw [Hq.out]; exact hlt
      have hlL : j < L.length := by rw [HLt.out]; exact hlt
      have hpc := (hp.below hbr hk) j hlk
      have hgt := HLg.out j hlL hlk
      have hrr := HR.out _ (List.getElem_mem hlk)
      generalize p[j] = x at hpc hgt hrr
      obtain ⟨kx, rfl⟩ : ∃ kx : Nat, x = kx := ⟨x.toNat, by omega⟩
      have hkT : kx < T.length := by have := HT.out; omega
      have hkN : kx < N := by omega
      rw [Int.toNat_natCast, getD_at hkT] at hgt
      have ht := (hc.below hbr hg) kx hkT
      generalize T[kx] = y at hgt ht
      simp only [Nat.zero_add] at hpc
      have hbx := hf.out.1
      obtain ⟨v0, d0⟩ := hf.out.2.2.1 j hlt
      have f0 := hf.out.2.2.2 j
      have HF3 := Lib.hid (hf.out.store hlL hgt hlt)
      have HB3 := Lib.hid (kSet hbr (show w.heap.size ≤ (⟨w.heap.size, 0 + j, none⟩ : Addr).block from Nat.le_refl _) (.int .u64 y))
      have hg3 := Nat.lt_of_lt_of_le hg hbr.size
      have hk3 := Nat.lt_of_lt_of_le hk hbr.size
      simp only [Nat.zero_add] at d0 HF3 HB3
      clear hgt hf
      go_wp2
      exact ⟨⟨j + 1, by omega, by go_num, HF3, HB3.out⟩, by simp [intOf]; omega⟩
    · obtain rfl : j = q := by omega
      have H1 : Hid (SlWUs w.heap.size wr.heap.size wr L (.slice (some ⟨w.heap.size, 0, none⟩) j j)) := Lib.hid (by
        have h := SlWUs.mk (lo := w.heap.size) (hi := wr.heap.size) (w := wr) (l := L) w.heap.size 0 j (fun i hi => hf.out.2.1 i hi (by have := HLt.out; omega)) (Nat.le_refl _) hf.out.1 hf.out.1 hf.out.2.2.2 (by rw [HLt.out]; exact Nat.le_refl _)
        rwa [HLt.out] at h)
      clear hf
      go_wp2
      go_ret
      exact ⟨_, rfl, H1.out, hbr⟩
set_option maxRecDepth 100000 in
set_option maxHeartbeats 4000000 in
theorem outputTables_any (n b k : Nat) (l : List Nd) (p : List Int) (w : World) (h : NK w b k l p) (hok : netOk n l p = true) (L : List Int) (hL : pickT (tabsL n l []) p = L) :
    Calls Try.prog 53 #[.agg #[.int .i8 n, .slice (some ⟨b, 0, none⟩) l.length l.length, .slice (some ⟨k, 0, none⟩) p.length p.length]] w fun e w' => ∃ v, e = .returned v ∧ SlWUs w.heap.size w'.heap.size w' L v ∧ Below w.heap.size w w' := by
  obtain ⟨W, hW⟩ : ∃ W, w.alloc (.cells #[.int .i8 n, .slice (some ⟨b, 0, none⟩) l.length l.length, .slice (some ⟨k, 0, none⟩) p.length p.length] 30) = W := ⟨_, rfl⟩
  have kW : Below w.heap.size w W := by rw [← hW]; exact kAlloc (Below.refl _ _) _
  have bN : W.heap[w.heap.size]? = some (.cells #[.int .i8 n, .slice (some ⟨b, 0, none⟩) l.length l.length, .slice (some ⟨k, 0, none⟩) p.length p.length] 30 (0, 0)) := by rw [← hW]; exact nNew _ _
  have hp := netOk_parts hok
  have HTb := Lib.hid (fun W2 (h2 : Below w.heap.size w W2) => tables_any n b k l p W2 (h.below h2) hok)
  have hTl : (tabsL n l []).length = l.length := by rw [tabsL_length]; simp
  have hpos : 0 < (tabsL n l []).length := by omega
  obtain ⟨T, hT⟩ : ∃ T, tabsL n l [] = T := ⟨_, rfl⟩
  rw [hT] at HTb hTl hpos hL
  have HIt := Lib.hid (fun W2 (h2 : Below w.heap.size w W2) g o vc (hc : UssAt W2 g o T) (hg : g < W2.heap.size) (hcap : T.length ≤ vc) => itemsU_any g o T.length vc k p.length T p W2 rfl hc hg hcap (h.below h2).p1 (h.below h2).z1 rfl (by omega) (by omega) (fun x hx => by have := outsOkN_all hp.2.2.2.2 x hx; omega) L hL)
  have c0 : W.cell? ⟨w.heap.size, 0, none⟩ = some (.int .i8 n) := cell_of_row _ _ 0 _ _ _ bN
  have c1 : W.cell? ⟨w.heap.size, 1, none⟩ = some (.slice (some ⟨b, 0, none⟩) l.length l.length) := cell_of_row _ _ 1 _ _ _ bN
  have c2 : W.cell? ⟨w.heap.size, 2, none⟩ = some (.slice (some ⟨k, 0, none⟩) p.length p.length) := cell_of_row _ _ 2 _ _ _ bN
  have lD := blk_lt bN
  have HW := Lib.hid hW
  have Hpos := Lib.hid hpos
  clear hW bN h hok hp hTl hT hL hpos
  go_enter Try.func53, Try.ntmps53
  go_upto_region 1 with fail
  try rw [HW.out]
  go_region_held3 (fun w' => w'.cell? ⟨w.heap.size, 0, none⟩ = some (.int .i8 n) ∧ w'.cell? ⟨w.heap.size, 1, none⟩ = some (.slice (some ⟨b, 0, none⟩) l.length l.length) ∧ w'.cell? ⟨w.heap.size, 2, none⟩ = some (.slice (some ⟨k, 0, none⟩) p.length p.length)) (go_keep)
    (first
    | (go_at_call 86
       obtain ⟨g, o, rfl, eC, eG, eL, _⟩ := slUs_someN Hu.out Hpos.out
       refine (HIt.out _ kv1 g o uc eC eG eL).mono ?_
       rintro e v2 ⟨u2, rfl, hu2, b2⟩
       obtain ⟨ua2, uc2, rfl⟩ := hu2.form
       have Hu2 := Lib.hid (hu2.mono kv1.size (Nat.le_refl _))
       have kv2 := kTrans kv1 b2
       have c0 := (b2.cell (p := ⟨w.heap.size, 0, none⟩) (Nat.lt_of_lt_of_le lD b1.size)).trans c0
       have c1 := (b2.cell (p := ⟨w.heap.size, 1, none⟩) (Nat.lt_of_lt_of_le lD b1.size)).trans c1
       have c2 := (b2.cell (p := ⟨w.heap.size, 2, none⟩) (Nat.lt_of_lt_of_le lD b1.size)).trans c2
       clear hu2)
    | (go_at_call 87
       refine (HTb.out _ (kTrans kW (by first | exact Below.refl _ _ | exact Below.drew (Below.refl _ _)))).mono ?_
       rintro e v1 ⟨u, rfl, hu, b1⟩
       obtain ⟨ua, uc, rfl⟩ := hu.form
       have Hu := Lib.hid hu.sl
       have kv1 : Below w.heap.size w v1 := kTrans kW (kTrans (show Below W.heap.size W _ by first | exact Below.refl _ _ | exact Below.drew (Below.refl _ _)) b1)
       have c0 := (b1.cell (p := ⟨w.heap.size, 0, none⟩) lD).trans c0
       have c1 := (b1.cell (p := ⟨w.heap.size, 1, none⟩) lD).trans c1
       have c2 := (b1.cell (p := ⟨w.heap.size, 2, none⟩) lD).trans c2
       clear hu))
  go_wp2
  go_ret
  exact ⟨_, rfl, Hu2.out, kv2⟩
set_option maxRecDepth 100000 in
set_option maxHeartbeats 8000000 in
theorem l04Outputs_any (n bb b k : Nat) (l : List Nd) (p : List Int) (w : World) (h0 : NwAt w bb n (.slice (some ⟨b, 0, none⟩) l.length l.length) (.slice (some ⟨k, 0, none⟩) p.length p.length)) (h : NK w b k l p) (hok : netOk n l p = true) (L : List Int) (hL : pickT (tabsL n l []) p = L) :
    Calls Try.prog 51 #[.pointer (some ⟨bb, 0, none⟩)] w fun e w' => ∃ v, e = .returned v ∧ SlWUs w.heap.size w'.heap.size w' L v ∧ Below w.heap.size w w' := by
  obtain ⟨i0, hi0, hz0, hzz1, hzz2⟩ := info_parts info_u64
  have Hi := Lib.hid hi0
  have Hz0 := Lib.hid hz0
  have Hz1 := Lib.hid hzz1
  have Hz2 := Lib.hid hzz2
  have hp := netOk_parts hok
  have HTb := Lib.hid (l04Tables_any n bb b k l p w h0 h hok)
  have lbb := h0.lt
  have HX := Lib.hid (fun W (hW : Below w.heap.size w W) => h0.below hW lbb)
  have HK := Lib.hid (fun W (hW : Below w.heap.size w W) => h.below hW)
  have zk := h.z1
  have HR := Lib.hid (outsOkN_all hp.2.2.2.2)
  have hTl : (tabsL n l []).length = l.length := by rw [tabsL_length]; simp
  have hpos : 0 < (tabsL n l []).length := by omega
  have h80 : l.length ≤ 80 := hp.2.1.2
  obtain ⟨T, hT⟩ : ∃ T, tabsL n l [] = T := ⟨_, rfl⟩
  rw [hT] at HTb hTl hpos hL
  obtain ⟨q, hq⟩ : ∃ q, p.length = q := ⟨_, rfl⟩
  have Hq := Lib.hid hq
  have hq8 : q ≤ 8 := by omega
  have HTl := Lib.hid hTl
  have HLL : Hid (([] : List Int) ++ pickT T (p.drop 0) = L) := Lib.hid (by simpa using hL)
  obtain ⟨x0, x1, x2⟩ := h0
  rw [hq] at HX x2
  clear h hok hp hTl hT hL hq hi0 hz0 hzz1 hzz2
  go_enter Try.func51, Try.ntmps51
  go_wp2_with fail
  refine HTb.out.mono ?_
  rintro e w1 ⟨v, rfl, hv, T1⟩
  obtain ⟨va, vc, rfl⟩ := hv.form
  obtain ⟨g, o, rfl, hc, hg, hle, _⟩ := slUs_someN hv.sl hpos
  have HC := Lib.hid hc
  have own0 : Hid ((w1.alloc (.cells #[] 47)).ownsRow w1.heap.size 47 1 (.slice (some ⟨w1.heap.size, 0, none⟩) 0 0) ([] : List Int).length (flatUs [])) := Lib.hid (owns_new (Nat.le_refl _) (heap_alloc_new _ _))
  have hk0 : Below w1.heap.size w1 (w1.alloc (.cells #[] 47)) := by repeat (first | with_reducible exact Below.refl _ _ | (with_reducible refine kSet ?_ ?hB _; case hB => (simp; try omega)) | with_reducible refine kAlloc ?_ _ | with_reducible refine Below.drew ?_ | with_reducible refine kDrewN ?_ _ | with_reducible refine kTrans ?_ (by assumption))
  clear HTb hv hc x0 x1 x2
  go_wp2
  go_loopw [4, 5] (fun out i wr => ∃ (j : Nat) (A : List Int), j ≤ q ∧ i = .int .i64 j ∧ A.length ≤ j ∧ Hid (A ++ pickT T (p.drop j) = L) ∧ Hid (wr.ownsRow w1.heap.size 47 1 out A.length (flatUs A)) ∧ Below w1.heap.size w1 wr) (fun _ i _ => q - (intOf i).toNat)
  case atStart => exact ⟨0, [], by omega, rfl, by simp, HLL, own0, hk0⟩
  case round =>
    clear HLL own0 hk0
    obtain ⟨j, A, hj, rfl, hAl, hf, hown, hbr⟩ := hrel
    obtain ⟨ua, uc, rfl⟩ := owns_slice hown.out
    have Tr := kTrans T1 hbr
    obtain ⟨x0, x1, x2⟩ := HX.out wr Tr
    have kb := Nat.lt_of_lt_of_le lbb Tr.size
    by_cases hlt : j < q
    · have hlk : j < p.length := by rw [Hq.out]; exact hlt
      have hpc := (HK.out wr Tr).p1 j hlk
      have hrr := HR.out _ (List.getElem_mem hlk)
      have hq2 := hf.out
      rw [pickT_drop T p j hlk] at hq2
      generalize p[j] = x at hpc hrr hq2
      obtain ⟨kx, rfl⟩ : ∃ kx : Nat, x = kx := ⟨x.toNat, by omega⟩
      have hkT : kx < T.length := by have := HTl.out; omega
      rw [Int.toNat_natCast, getD_at hkT] at hq2
      have ht := (HC.out.below hbr hg) kx hkT
      generalize T[kx] = y at hq2 ht
      simp only [Nat.zero_add] at hpc
      have hR2 : Hid ((A ++ [y]) ++ pickT T (p.drop (j + 1)) = L) := Lib.hid (by rw [← hq2]; simp)
      have Hblk := Lib.hid (owns_block hown.out)
      have hg3 := Nat.lt_of_lt_of_le hg hbr.size
      have hk3 := Nat.lt_of_lt_of_le zk Tr.size
      clear hq2 hf
      go_wp2_with (at_builtin; refine wpList_append_own _ rfl _ _ 66 rfl w1.heap.size 47 i0 _ 1 8 Try.underlying66 Hi.out Hz0.out Hz1.out Hz2.out rfl (by decide) (.slice ua A.length uc) A.length (flatUs A) rfl (owns_below hown.out (by repeat (first | with_reducible exact Below.refl _ _ | (with_reducible refine kSet ?_ ?hB _; case hB => (simp; try omega)) | with_reducible refine kAlloc ?_ _ | with_reducible refine Below.drew ?_ | with_reducible refine kDrewN ?_ _ | with_reducible refine kTrans ?_ (by assumption)))) ⟨wr.heap.size, 0, none⟩ 1 1 [.int .u64 y] rfl rfl (World.news_of_block (cs := #[.int .u64 y]) (heap_alloc_new _ _)) (by simp [Value.oneCell']) ?qc4 ?qc5 ?qc6 ?_)
      case qc4 => unfold maxLen; omega
      case qc5 => omega
      case qc6 => have := hbr.size; simp; omega
      intro v6 w6 hown6 hgr hnil
      have Hown6 := Lib.hid (show w6.ownsRow w1.heap.size 47 1 v6 (A ++ [y]).length (flatUs (A ++ [y])) by rw [flatUs_end, List.length_append]; exact hown6)
      have T6 : Below w1.heap.size w1 w6 := grown_below (v := .slice ua A.length uc) (kAlloc hbr _) hgr (by intro q hq; exact (Hblk.out q hq).1)
      clear hown6 hgr hnil hown x0 x1 x2
      go_wp2
      exact ⟨⟨j + 1, A ++ [y], by omega, by go_num, by simp; omega, hR2, Hown6, T6⟩, by simp [intOf]; omega⟩
    · obtain rfl : j = q := by omega
      have hAL : A = L := by rw [← hf.out, List.drop_of_length_le (by rw [Hq.out]; omega)]; simp [pickT]
      subst hAL
      have HW := Lib.hid ((SlWUs.of_owns hown.out).mono T1.size (Nat.le_refl _))
      clear hf hown
      go_wp2
      go_ret
      exact ⟨_, rfl, HW.out, Tr⟩
end Go.Proofs.Ytcnmcgajkmcllaa
