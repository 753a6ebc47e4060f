/- FreeCells: the model's side. -/
import Derived.Test.YtekmdcakegfkmaaFr
namespace Go.Proofs.Ytekmdcakegfkmaa
open Go.ChangeShapes Go.WideShapes Go.ChangeAt Go.RowKit Go.Shelf Go.Joins Go.Deep
set_option linter.unusedVariables false
set_option linter.unusedSimpArgs false
theorem free_here {W H x y : Nat} {l : List Pc} (hx : x < W) (hy : y < H) : freeB (W : Int) (H : Int) l (x : Int) (y : Int) = decide (findFrom (x : Int) (y : Int) l 0 < 0) :=
  freeB_in (by unfold inB'; simp; omega)
set_option maxRecDepth 100000 in
set_option maxHeartbeats 16000000 in
theorem specFreeCells_any (b n cap : Nat) (wd hi : Int) (l : List Pc) (w : World) (hn : l.length = n) (hp : PcsAt w b 0 l) (hb : b < w.heap.size) (hc : n ≤ cap) (h8 : All8 l) (bw : i8 wd) (bh : i8 hi) (hmax : n ≤ 1048576) (R : Bool) (hR : R = boardOk wd hi l) (L : List Cl) (C : Int) (hQ : fcQ R wd hi l = (L, C)) :
    Calls Try.prog 53 #[.agg #[.int .i8 wd, .int .i8 hi, .slice (some ⟨b, 0, none⟩) n cap]] w (ClPost2 L C w) := by
  obtain ⟨i0, hi0, hz0, hzz1, hzz2⟩ := info_parts info_Clq
  have Hi := Lib.hid hi0
  have Hz0 := Lib.hid hz0
  have Hz1 := Lib.hid hzz1
  have Hz2 := Lib.hid hzz2
  have ka : Below w.heap.size w (w.alloc (.cells #[.int .i8 wd, .int .i8 hi, .slice (some ⟨b, 0, none⟩) n cap] 74)) := by repeat (first | with_reducible exact Below.refl _ _ | (with_reducible refine kSet ?_ ?hB _; case hB => (simp; try omega)) | with_reducible refine kAlloc ?_ _ | with_reducible refine Below.drew ?_ | with_reducible refine kDrewN ?_ _ | with_reducible refine kTrans ?_ (by assumption))
  have hbx := BdAt.box w wd hi (.slice (some ⟨b, 0, none⟩) n cap) 74
  have HG := Lib.hid (l01Ok_any w.heap.size 0 b 0 n cap wd hi l _ hn hbx (hp.below ka hb) (Nat.lt_of_lt_of_le hb ka.size) hc h8 bw bh hmax R hR)
  have HRR := Lib.hid hR
  have HQ := Lib.hid hQ
  have HP := Lib.hid (fun W2 (h : Below w.heap.size w W2) => hp.below h hb)
  have Hn := Lib.hid hn
  have HBX := Lib.hid (fun W2 (h : Below (w.alloc (.cells #[.int .i8 wd, .int .i8 hi, .slice (some ⟨b, 0, none⟩) n cap] 74)).heap.size (w.alloc (.cells #[.int .i8 wd, .int .i8 hi, .slice (some ⟨b, 0, none⟩) n cap] 74)) W2) => hbx.below h hbx.lt)
  clear hn hp h8 hR hQ hi0 hz0 hzz1 hzz2 hbx
  cases R with
  | false =>
    obtain ⟨rfl, rfl⟩ := pair_FC (show (([] : List Cl), (1 : Int)) = (L, C) from HQ.out)
    clear HQ HRR
    go_enter Try.func53, Try.ntmps53
    go_wp2_with fail
    refine HG.out.mono ?_
    rintro e w1 ⟨rfl, hb1⟩
    have T1 := kTrans ka hb1
    clear HG hb1
    go_wp2
    exact bodyPost_ret (v := .tuple #[.slice (some ⟨w1.heap.size, 0, none⟩) 0 0, .int .i64 1]) (by simp [results, Try.results53, go_sem]) rfl ⟨_, rfl, .empty _ _ rfl, by repeat (first | with_reducible exact Below.refl _ _ | (with_reducible refine kSet ?_ ?hB _; case hB => (simp; try omega)) | with_reducible refine kAlloc ?_ _ | with_reducible refine Below.drew ?_ | with_reducible refine kDrewN ?_ _ | with_reducible refine kTrans ?_ (by assumption))⟩
  | true =>
    have hs := board_sides HRR.out.symm
    obtain ⟨W, rfl⟩ : ∃ W : Nat, wd = (W : Int) := ⟨wd.toNat, by omega⟩
    obtain ⟨H, rfl⟩ : ∃ H : Nat, hi = (H : Int) := ⟨hi.toNat, by omega⟩
    have hW : 1 ≤ W ∧ W ≤ 24 := by omega
    have hH : 1 ≤ H ∧ H ≤ 24 := by omega
    have HQ1 := HQ.out
    unfold fcQ at HQ1
    rw [if_pos rfl] at HQ1
    simp only [Int.toNat_natCast] at HQ1
    obtain ⟨h1, rfl⟩ := pair_FC HQ1
    have HL := Lib.hid h1
    clear HQ HQ1 h1 HRR hs
    go_enter Try.func53, Try.ntmps53
    go_wp2_with fail
    refine HG.out.mono ?_
    rintro e w1 ⟨rfl, hb1⟩
    have T1 := kTrans ka hb1
    have HB1 := Lib.hid hb1
    have hlb : w.heap.size < w1.heap.size := by have := hb1.size; simp at this; omega
    clear HG hb1
    obtain ⟨f, hf⟩ : ∃ f, f = frC (W : Int) (H : Int) l := ⟨_, rfl⟩
    rw [← hf] at HL
    have HF := Lib.hid (fun (pre : List C24) (c : C24) => frC_snoc (W : Int) (H : Int) l pre c)
    have HFl := Lib.hid (fun (pre : List C24) => frC_len (W : Int) (H : Int) l pre)
    rw [← hf] at HF HFl
    have hf0 : f [] = [] := by rw [hf]; rfl
    have bA : Below w1.heap.size w1 (w1.alloc (.cells #[] 26)) := by repeat (first | with_reducible exact Below.refl _ _ | (with_reducible refine kSet ?_ ?hB _; case hB => (simp; try omega)) | with_reducible refine kAlloc ?_ _ | with_reducible refine Below.drew ?_ | with_reducible refine kDrewN ?_ _ | with_reducible refine kTrans ?_ (by assumption))
    have own0 : Hid ((w1.alloc (.cells #[] 26)).ownsRow w1.heap.size 26 2 (.slice (some ⟨w1.heap.size, 0, none⟩) 0 0) (f (cellsC W (0 * W))).length (flatCl (f (cellsC W (0 * W))))) := Lib.hid (by
      rw [Nat.zero_mul, show cellsC W 0 = [] from rfl, hf0]
      exact owns_new (Nat.le_refl _) (heap_alloc_new _ _))
    clear hf hf0
    go_wp2
    go_loopw [4, 5] (fun out i wr => ∃ j : Nat, j ≤ H ∧ i = .int .i8 j ∧ Hid (wr.ownsRow w1.heap.size 26 2 out (f (cellsC W (j * W))).length (flatCl (f (cellsC W (j * W))))) ∧ Below w1.heap.size w1 wr) (fun _ i _ => H - (intOf i).toNat)
    case atStart => exact ⟨0, by omega, rfl, own0, bA⟩
    case round =>
      clear own0 bA
      obtain ⟨wo, rfl⟩ : ∃ wo : World, wo = wr := ⟨_, rfl⟩
      obtain ⟨j, hj, rfl, hown, hbr⟩ := hrel
      obtain ⟨c0, c1, c2⟩ := HBX.out _ (kTrans HB1.out hbr)
      have hl3 : w.heap.size < wo.heap.size := Nat.lt_of_lt_of_le hlb hbr.size
      by_cases hlt : j < H
      · go_wp2
        go_loopw [4, 6] (fun out i wr => ∃ k : Nat, k ≤ W ∧ i = .int .i8 k ∧ Hid (wr.ownsRow w1.heap.size 26 2 out (f (cellsC W (j * W + k))).length (flatCl (f (cellsC W (j * W + k))))) ∧ Below w1.heap.size w1 wr) (fun _ i _ => W - (intOf i).toNat)
        case atStart => exact ⟨0, by omega, rfl, hown, hbr⟩
        case round =>
          clear hown hbr c0 c1 c2 hl3
          obtain ⟨k, hk, rfl, hown, hbr⟩ := hrel
          obtain ⟨va, vc, rfl⟩ := owns_slice hown.out
          have Hblk := Lib.hid (owns_block hown.out)
          have bb := HBX.out _ (kTrans HB1.out hbr)
          have hl3 : w.heap.size < wr.heap.size := Nat.lt_of_lt_of_le hlb hbr.size
          by_cases hlk : k < W
          · have hmk := mkC_at hlk hW.2 (Nat.lt_of_lt_of_le hlt hH.2)
            have hsn := HF.out (cellsC W (j * W + k)) (mkC W (j * W + k))
            rw [← cellsC_succ, hmk] at hsn
            simp only [free_here hlk hlt, C24.cl] at hsn
            have hNN : j * W + k < 576 := by
              have h1 : (j + 1) * W ≤ 24 * 24 := Nat.mul_le_mul (by omega) hW.2
              rw [Nat.succ_mul] at h1
              omega
            have hpl := HFl.out (cellsC W (j * W + k))
            rw [cellsC_length] at hpl
            obtain ⟨A, hA⟩ : ∃ A, f (cellsC W (j * W + k)) = A := ⟨_, rfl⟩
            rw [hA] at hsn hpl hown
            have HFD := Lib.hid (l01Find_any w.heap.size 0 b 0 n cap (W : Int) (H : Int) (k : Int) (j : Int) l wr Hn.out bb (HP.out _ (kTrans T1 hbr)) (Nat.lt_of_lt_of_le hb (kTrans T1 hbr).size) hc hmax)
            obtain ⟨q, hq⟩ : ∃ q, findFrom (k : Int) (j : Int) l 0 = q := ⟨_, rfl⟩
            rw [hq] at hsn HFD
            obtain ⟨c0, c1, c2⟩ := bb
            rw [hA] at Hblk ⊢
            have hpl2 : A.length ≤ 576 := by omega
            clear hq hmk hA hNN hpl
            by_cases hneg : q < 0
            · have HSN : Hid (f (cellsC W (j * W + (k + 1))) = A ++ [⟨(k : Int), (j : Int)⟩]) := Lib.hid (by rw [← Nat.add_assoc, hsn]; simp [hneg])
              have hneg' : decide (q < 0) = true := by simpa using hneg
              clear hsn
              go_wp2_with fail
              refine HFD.out.mono ?_
              rintro e w5 ⟨rfl, hb5⟩
              have HK5 := Lib.hid hb5
              have hs5 := hb5.size
              have HOW5 := Lib.hid (owns_below hown.out hb5)
              clear HFD hb5 hown c0 c1 c2
              go_wp2_with (at_builtin; refine wpList_append_own _ rfl _ _ 88 rfl w1.heap.size 26 i0 _ 2 2 Try.underlying88 Hi.out Hz0.out Hz1.out Hz2.out rfl (by decide) (.slice va A.length vc) A.length (flatCl A) rfl (owns_below HOW5.out (by repeat (first | with_reducible exact Below.refl _ _ | (with_reducible refine kSet ?_ ?hB _; case hB => (simp; try omega)) | with_reducible refine kAlloc ?_ _ | with_reducible refine Below.drew ?_ | with_reducible refine kDrewN ?_ _ | with_reducible refine kTrans ?_ (by assumption)))) ⟨w5.heap.size, 0, none⟩ 1 1 [.int .i8 k, .int .i8 j] rfl rfl (World.news_of_block (cs := #[.int .i8 k, .int .i8 j]) (heap_alloc_new _ _)) (by simp [Value.oneCell']) ?qc4 ?qc5 ?qc6 ?_)
              case qc4 => unfold maxLen; omega
              case qc5 => omega
              case qc6 => have := hbr.size; simp; omega
              intro v6 w6 hown6 hgr hnil
              have Hown6 := Lib.hid (show w6.ownsRow w1.heap.size 26 2 v6 (f (cellsC W (j * W + (k + 1)))).length (flatCl (f (cellsC W (j * W + (k + 1))))) by rw [HSN.out, flatCl_end, List.length_append]; exact hown6)
              have T6 : Below w1.heap.size w1 w6 := grown_below (v := .slice va A.length vc) (kAlloc (kTrans hbr HK5.out) _) hgr (by intro q hq; exact (Hblk.out q hq).1)
              clear hown6 hgr hnil HOW5
              go_wp2
              exact ⟨⟨k + 1, by omega, by go_num, Hown6, T6⟩, by simp [intOf]; omega⟩
            · have HSN : Hid (f (cellsC W (j * W + (k + 1))) = A) := Lib.hid (by rw [← Nat.add_assoc, hsn]; simp [hneg])
              have hneg' : decide (q < 0) = false := by simpa using hneg
              clear hsn
              go_wp2_with fail
              refine HFD.out.mono ?_
              rintro e w5 ⟨rfl, hb5⟩
              have Hown6 := Lib.hid (show w5.ownsRow w1.heap.size 26 2 (.slice va A.length vc) (f (cellsC W (j * W + (k + 1)))).length (flatCl (f (cellsC W (j * W + (k + 1))))) by rw [HSN.out]; exact owns_below hown.out hb5)
              have T6 := kTrans hbr hb5
              clear HFD hb5 hown c0 c1 c2
              go_wp2
              exact ⟨⟨k + 1, by omega, by go_num, Hown6, T6⟩, by simp [intOf]; omega⟩
          · obtain rfl : k = W := by omega
            have Hown6 := Lib.hid (show wr.ownsRow w1.heap.size 26 2 (.slice va (f (cellsC k (j * k + k))).length vc) (f (cellsC k ((j + 1) * k))).length (flatCl (f (cellsC k ((j + 1) * k)))) by rw [Nat.succ_mul]; exact hown.out)
            obtain ⟨c0, c1, c2⟩ := bb
            clear hown
            go_wp2
            exact ⟨⟨j + 1, by omega, by go_num, Hown6, hbr⟩, by simp [intOf]; omega⟩
      · obtain rfl : j = H := by omega
        have hown2 := hown.out
        rw [Nat.mul_comm, HL.out] at hown2
        obtain ⟨va, vc, rfl⟩ := owns_slice hown2
        have HS := Lib.hid ((SlWCl.of_owns hown2).mono T1.size (Nat.le_refl _))
        have T2 := kTrans T1 hbr
        clear hown hown2
        go_wp2
        exact bodyPost_ret (v := .tuple #[.slice va L.length vc, .int .i64 0]) (by simp [results, Try.results53, go_sem]) rfl ⟨_, rfl, HS.out, T2⟩
end Go.Proofs.Ytekmdcakegfkmaa
