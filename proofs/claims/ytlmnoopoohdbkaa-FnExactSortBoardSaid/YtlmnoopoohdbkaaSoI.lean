/- SortBoard: the program. -/
import Derived.Test.YtlmnoopoohdbkaaSoB
import Derived.Test.YtlmnoopoohdbkaaTpS
namespace Go.Proofs.Ytlmnoopoohdbkaa
open Go.ChangeShapes Go.WideShapes Go.ChangeAt Go.RowKit Go.Joins Go.Deep
set_option linter.unusedVariables false
set_option linter.unusedSimpArgs false

set_option maxRecDepth 100000 in
set_option maxHeartbeats 8000000 in
theorem implSortBoard_any (b n : Nat) (wd hi : Int) (l : List Pc) (w : World) (hn : l.length = n) (hp : PcsAt w b 0 l) (hb : b < w.heap.size) (h8 : All8 l) (hw8 : i8 wd) (hh8 : i8 hi) (hmax : n ≤ 1048576) (R : Bool) (hR : R = boardOk wd hi l) (Wr Hr : Int) (lr : List Pc) (C : Int) (hQ : sortQ R wd hi l = (Wr, Hr, lr, C)) :
    Calls Try.prog 20 #[.agg #[.int .i8 wd, .int .i8 hi, .slice (some ⟨b, 0, none⟩) n n]] w (BoardPost Wr Hr lr C w) := by
  obtain ⟨W0, hW⟩ : ∃ W0, (w.alloc (.cells #[.int .i8 wd, .int .i8 hi, .slice (some ⟨b, 0, none⟩) n n] 30)).alloc (.cells #[.int .i8 0, .int .i8 0, .slice none 0 0] 30) = W0 := ⟨_, rfl⟩
  have k0 : Below w.heap.size w W0 := by rw [← hW]; exact kAlloc (kAlloc (Below.refl _ _) _) _
  have hs0 : w.heap.size + 2 ≤ W0.heap.size := by rw [← hW]; simp
  have bX : W0.heap[w.heap.size]? = some (.cells #[.int .i8 wd, .int .i8 hi, .slice (some ⟨b, 0, none⟩) n n] 30 (0, 0)) := by
    rw [← hW]; exact (Below.heap_alloc _ _ _ (by simp)).trans (heap_alloc_new _ _)
  have bR : W0.heap[w.heap.size + 1]? = some (.cells #[.int .i8 0, .int .i8 0, .slice none 0 0] 30 (0, 0)) := by
    rw [← hW]; exact heap_two _ _ _
  have hx := BdAt.of bX
  have hlx := hx.lt
  have HX := Lib.hid (fun W2 (h2 : Below W0.heap.size W0 W2) => hx.below h2 hx.lt)
  have HBR := Lib.hid (fun W2 (h2 : Below W0.heap.size W0 W2) => blk_below bR h2)
  have HP := Lib.hid (fun W2 (h2 : Below W0.heap.size W0 W2) => hp.below (kTrans k0 h2) hb)
  have HV := Lib.hid (fun W2 (h2 : Below W0.heap.size W0 W2) => implValidBoard_any b 0 n n wd hi l W2 hn (hp.below (kTrans k0 h2) hb) (Nat.lt_of_lt_of_le hb (kTrans k0 h2).size) (Nat.le_refl _) h8 hmax R hR)
  have HC := Lib.hid (fun W2 (h2 : Below W0.heap.size W0 W2) => clone_nn b 0 n n l W2 hn (hp.below (kTrans k0 h2) hb) (Nat.lt_of_lt_of_le hb (kTrans k0 h2).size) hmax)
  have HK0 := Lib.hid k0
  have HW := Lib.hid hW
  have Hn := Lib.hid hn
  have HRR := Lib.hid hR
  have HQ := Lib.hid hQ
  have hbW : b < W0.heap.size := Nat.lt_of_lt_of_le hb k0.size
  obtain ⟨x0, x1, x2⟩ := bd0T hx
  clear hR h8 hp hb hW bX bR k0 hx hn hQ
  go_enter Try.func20, Try.ntmps20
  go_upto_region 1 with fail
  try rw [HW.out]
  go_wp2_with fail
  refine (HV.out _ (Below.refl _ _)).mono ?_
  rintro e w1 ⟨rfl, hb1⟩
  clear HV HW x0 x1 x2
  have hz1 := hb1.size
  have HB1 := Lib.hid hb1
  clear hb1
  cases R with
  | false =>
    obtain ⟨rfl, rfl, rfl, rfl⟩ := four_inj (show ((0, 0, [], 1) : Int × Int × List Pc × Int) = (Wr, Hr, lr, C) from HQ.out)
    clear HQ HRR HC HX HP
    have rs_ := HBR.out _ HB1.out
    have HT := Lib.hid (kTrans HK0.out HB1.out)
    clear HBR
    go_wp2_with (refine wpList_store_row rfl 30 _ _ rfl (w.heap.size + 1) #[.int .i8 0, .int .i8 0, .slice none 0 0] rfl rfl 30 _ rs_ (by kernel_rfl) (by kernel_rfl) (by kernel_rfl) ?_)
    refine bodyPost_ret (v := .tuple #[.agg #[.int .i8 0, .int .i8 0, .slice none 0 0], .int .i64 1]) (results_cell_tmp rfl _ _ (w.heap.size + 1) 30 #[.int .i8 0, .int .i8 0, .slice none 0 0] (0, 0) _ _ rfl rfl (setRow_heap _ _ _ _ _ _ rs_) Try.underlying30 rfl (by kernel_rfl)) rfl ?_
    exact ⟨_, rfl, .empty _ _ rfl, kRowW HT.out (by omega) _⟩
  | true =>
    have hs := board_sidesS HRR.out.symm
    obtain ⟨W, rfl⟩ : ∃ W : Nat, wd = (W : Int) := ⟨wd.toNat, by omega⟩
    obtain ⟨H, rfl⟩ : ∃ H : Nat, hi = (H : Int) := ⟨hi.toNat, by omega⟩
    obtain ⟨rfl, rfl, hlr, rfl⟩ := four_inj (show (((W : Int), (H : Int), soAll l W H, 0) : Int × Int × List Pc × Int) = (Wr, Hr, lr, C) by have h := HQ.out; unfold sortQ at h; rw [if_pos rfl, Int.toNat_natCast, Int.toNat_natCast] at h; exact h)
    have HLR := Lib.hid hlr
    clear HQ hlr hs
    obtain ⟨x0, x1, x2⟩ := bd0T (HX.out _ HB1.out)
    have lx := (HX.out _ HB1.out).lt
    go_wp2_with fail
    refine (HC.out _ HB1.out).mono ?_
    rintro e w2 ⟨v, rfl, hown, hnn, hb2⟩
    obtain ⟨g, c, rfl, hbg⟩ : ∃ g c, v = .slice (some ⟨g, 0, none⟩) n c ∧ w1.heap.size ≤ g := by
      rcases hown.2 with ⟨h1, h2⟩ | ⟨g, c, cur, h1, h2, _⟩
      · subst h2; exact absurd h1 hnn
      · exact ⟨g, c, h1, h2⟩
    have HB2 := Lib.hid (kTrans HB1.out hb2)
    have HS := Lib.hid (sortPc_any w1.heap.size g n c l w2 Hn.out hmax hown)
    clear hown hnn hb2 HC x0 x1 x2 lx HP
    go_wp2_with fail
    refine HS.out.mono ?_
    rintro e w3 ⟨rfl, r, hperm, hpw, hown, hbel⟩
    obtain rfl : r = lr := by rw [← HLR.out]; exact so_sorted HRR.out.symm hperm hpw
    have HB3 := Lib.hid (hbel W0 HB2.out (by omega))
    have Hown := Lib.hid hown
    have hrn : r.length = n := by rw [hperm.length_eq, Hn.out]
    have Hrn := Lib.hid hrn
    obtain ⟨x0, x1, x2⟩ := bd0T (HX.out _ HB3.out)
    have lx := (HX.out _ HB3.out).lt
    clear hown hbel hpw hperm HS HB2 hrn HRR HLR
    go_wp2_with fail
    refine (withPieces_any (W : Int) (H : Int) (.slice (some ⟨b, 0, none⟩) n n) (.slice (some ⟨g, 0, none⟩) n c) w3 ⟨_, _, _, rfl⟩).mono ?_
    rintro e w4 ⟨rfl, hb4⟩
    have HB4 := Lib.hid (kTrans HB3.out hb4)
    have Own4 := Lib.hid (owns_below Hown.out hb4)
    have rs_ := HBR.out _ HB4.out
    clear hb4 Hown HB3 x0 x1 x2 lx HX HBR
    go_wp2_with (refine wpList_store_row rfl 30 _ _ rfl (w.heap.size + 1) #[.int .i8 W, .int .i8 H, .slice (some ⟨g, 0, none⟩) n c] rfl rfl 30 _ rs_ (by kernel_rfl) (by kernel_rfl) (by kernel_rfl) ?_)
    refine bodyPost_ret (v := .tuple #[.agg #[.int .i8 W, .int .i8 H, .slice (some ⟨g, 0, none⟩) n c], .int .i64 0]) (results_cell_tmp rfl _ _ (w.heap.size + 1) 30 #[.int .i8 W, .int .i8 H, .slice (some ⟨g, 0, none⟩) n c] (0, 0) _ _ rfl rfl (setRow_heap _ _ _ _ _ _ rs_) Try.underlying30 rfl (by kernel_rfl)) rfl ?_
    refine ⟨_, rfl, ?_, kRowW (kTrans HK0.out HB4.out) (by omega) _⟩
    have hs := SlW.of_owns (l := r) (n := n) Own4.out
    exact (hs.row (by omega)).mono (by omega) (by simp [World.setRow])
end Go.Proofs.Ytlmnoopoohdbkaa
