/- TurnBoard: a quarter, the program. -/
import Derived.Test.YthancdlkkfegnaaTbA
import Derived.Deep.RegionHeld3
import Derived.Deep.DeepCutAuto
namespace Go.Proofs.Ythancdlkkfegnaa
open Go.ChangeShapes Go.WideShapes Go.ChangeAt Go.RowKit
set_option linter.unusedVariables false

theorem box3_set {w : World} {b : Nat} {t : TypeId} {fr : Nat × Nat} {x y z x' y' z' : Value} (h : w.heap[b]? = some (.cells #[x, y, z] t fr)) : (((w.setCell ⟨b, 0, none⟩ x').setCell ⟨b, 1, none⟩ y').setCell ⟨b, 2, none⟩ z').heap[b]? = some (.cells #[x', y', z'] t fr) :=
  blk_set_same (blk_set_same (blk_set_same h))
theorem map_take_snoc (f : Pc → Pc) (l : List Pc) (k : Nat) (h : k < l.length) : (l.map f).take (k + 1) = (l.map f).take k ++ [f l[k]] := by
  rw [List.take_succ_eq_append_getElem (by rw [List.length_map]; exact h)]; simp
theorem heap_alloc_old {w : World} {b : Nat} {o x : Obj} (h : w.heap[b]? = some o) : (w.alloc x).heap[b]? = some o := blk_below h (kAlloc (Below.refl _ _) _)

set_option maxRecDepth 100000 in
set_option maxHeartbeats 4000000 in
theorem quarterTurned_mk (b o n cap : Nat) (wd hi : Int) (l : List Pc) (w : World) (hn : l.length = n) (hp : PcsAt w b o l) (hb : b < w.heap.size) (hc : n ≤ cap) (hF : Fine wd hi l) (hmax : n ≤ 1048576) :
    Calls Try.prog 91 #[.agg #[.int .i8 wd, .int .i8 hi, .slice (some ⟨b, o, none⟩) n cap]] w fun e w' => ∃ v', e = .returned (.agg #[.int .i8 hi, .int .i8 wd, v']) ∧ SlW w.heap.size w'.heap.size w' (l.map (qt hi)) v' ∧ Below w.heap.size w w' := by
  obtain ⟨hw1, hw2, hh1, hh2, hps⟩ := hF
  have Hps := Lib.hid hps
  have Hn := Lib.hid hn
  have HP := Lib.hid hp
  obtain ⟨i0, hi0, hz0, hzz1, hzz2⟩ := info_parts info_pc
  have Hi := Lib.hid hi0
  have Hz0 := Lib.hid hz0
  have Hz1 := Lib.hid hzz1
  have Hz2 := Lib.hid hzz2
  have kA : Below w.heap.size w (((w.alloc (.cells #[.int .i8 wd, .int .i8 hi, .slice (some ⟨b, o, none⟩) n cap] 30)).alloc (.cells #[.int .i8 0, .int .i8 0, .slice none 0 0] 30)).alloc (.cells #[.int .i8 hi, .int .i8 wd, .slice none 0 0] 30)) := by repeat (first | with_reducible exact Below.refl _ _ | (with_reducible refine kSet ?_ ?hB _; case hB => (simp; try omega)) | with_reducible refine kAlloc ?_ _ | with_reducible refine Below.drew ?_ | with_reducible refine kDrewN ?_ _ | with_reducible refine kTrans ?_ (by assumption))
  have kb := Lib.hid (heap_alloc_old (x := .cells #[.int .i8 hi, .int .i8 wd, .slice none 0 0] 30) (heap_alloc_old (x := .cells #[.int .i8 0, .int .i8 0, .slice none 0 0] 30) (heap_alloc_new w (.cells #[.int .i8 wd, .int .i8 hi, .slice (some ⟨b, o, none⟩) n cap] 30))))
  have kr := Lib.hid (heap_alloc_old (x := .cells #[.int .i8 hi, .int .i8 wd, .slice none 0 0] 30) (heap_two w (.cells #[.int .i8 wd, .int .i8 hi, .slice (some ⟨b, o, none⟩) n cap] 30) (.cells #[.int .i8 0, .int .i8 0, .slice none 0 0] 30)))
  have kx := Lib.hid (show ((((w.alloc (.cells #[.int .i8 wd, .int .i8 hi, .slice (some ⟨b, o, none⟩) n cap] 30)).alloc (.cells #[.int .i8 0, .int .i8 0, .slice none 0 0] 30)).alloc (.cells #[.int .i8 hi, .int .i8 wd, .slice none 0 0] 30)).heap[w.heap.size + 1 + 1]? = some (.cells #[.int .i8 hi, .int .i8 wd, .slice none 0 0] 30 (0, 0))) by
    have h := heap_alloc_new ((w.alloc (.cells #[.int .i8 wd, .int .i8 hi, .slice (some ⟨b, o, none⟩) n cap] 30)).alloc (.cells #[.int .i8 0, .int .i8 0, .slice none 0 0] 30)) (.cells #[.int .i8 hi, .int .i8 wd, .slice none 0 0] 30)
    simpa only [World.size_alloc] using h)
  clear hps hn hp hi0 hz0 hzz1 hzz2
  go_enter Try.func91, Try.ntmps91
  go_wp2
  go_loopw [14] (fun i wr => ∃ (k : Nat) (va : Option Addr) (vc : Nat), k ≤ n ∧ i = .int .i64 k ∧ Hid (wr.heap[w.heap.size]? = some (.cells #[.int .i8 wd, .int .i8 hi, .slice (some ⟨b, o, none⟩) n cap] 30 (0, 0))) ∧ Hid (wr.heap[w.heap.size + 1]? = some (.cells #[.int .i8 0, .int .i8 0, .slice none 0 0] 30 (0, 0))) ∧ Hid (wr.heap[w.heap.size + 1 + 1]? = some (.cells #[.int .i8 hi, .int .i8 wd, .slice va k vc] 30 (0, 0))) ∧ Hid (wr.ownsRow (w.heap.size + 1 + 1 + 1) 46 5 (.slice va k vc) k (flatL ((l.map (qt hi)).take k))) ∧ Below w.heap.size w wr) (fun i _ => n - (intOf i).toNat)
  case atStart => exact ⟨0, none, 0, by omega, rfl, kb, kr, kx, Lib.hid (World.ownsRow_nil _ _ _ _), kA⟩
  case round =>
    obtain ⟨k, va, vc, hk, rfl, hb_, hr_, hx_, ho_, hT_⟩ := hrel
    clear kb kr kx kA
    have nr_ := hT_.size
    have lb_ := blk_lt hb_.out
    have lx_ := blk_lt hx_.out
    have x0 : wr.cell? ⟨w.heap.size + 1 + 1, 0, none⟩ = some (.int .i8 hi) := cell_of_row _ _ 0 _ _ _ hx_.out
    have x1 : wr.cell? ⟨w.heap.size + 1 + 1, 1, none⟩ = some (.int .i8 wd) := cell_of_row _ _ 1 _ _ _ hx_.out
    have x2 : wr.cell? ⟨w.heap.size + 1 + 1, 2, none⟩ = some (.slice va k vc) := cell_of_row _ _ 2 _ _ _ hx_.out
    have xf : ∀ j, wr.frozen? ⟨w.heap.size + 1 + 1, j, none⟩ = false := fun j => frozen_of_row _ _ j _ _ hx_.out
    by_cases hlt : k < n
    · have hlk : k < l.length := by rw [Hn.out]; exact hlt
      obtain ⟨hp8, hpx, hpy, hpt⟩ := Hps.out _ (List.getElem_mem hlk)
      obtain ⟨d0, d1, d2, d3, d4⟩ := (HP.out.below hT_ hb) k hlk
      have htk := Lib.hid (map_take_snoc (qt hi) l k hlk)
      generalize l[k] = p at hp8 hpx hpy hpt d0 d1 d2 d3 d4 htk
      have b1 : wr.cell? ⟨w.heap.size, 1, none⟩ = some (.int .i8 hi) := cell_of_row _ _ 1 _ _ _ hb_.out
      have Hblk := Lib.hid (owns_block ho_.out)
      clear hp8
      go_wp2_with fail
      refine (wrapQuarters_any (p.turn + 1) _ (by omega)).mono ?_
      rintro e w2 ⟨rfl, rfl⟩
      go_wp2_with (at_builtin; refine wpList_append_own _ rfl _ _ 28 rfl (w.heap.size + 1 + 1 + 1) 46 i0 _ 5 5 Try.underlying28 Hi.out Hz0.out Hz1.out Hz2.out rfl (by decide) (.slice va k vc) k (flatL ((l.map (qt hi)).take k)) rfl (owns_below ho_.out (by repeat (first | with_reducible exact Below.refl _ _ | (with_reducible refine kSet ?_ ?hB _; case hB => (simp; try omega)) | with_reducible refine kAlloc ?_ _ | with_reducible refine Below.drew ?_ | with_reducible refine kDrewN ?_ _ | with_reducible refine kTrans ?_ (by assumption)))) ⟨wr.heap.size + 1, 0, none⟩ 1 1 (qt hi p).cells rfl rfl (World.news_of_block (cs := #[.int .i8 (hi - 1 - p.y), .int .i8 p.x, .int .i8 p.kind, .int .i8 ((p.turn + 1) % 4), .int .i8 p.delay]) (heap_two _ _ _)) (pc_one _) ?qc4 ?qc5 ?qc6 ?_)
      case qc4 => unfold maxLen; omega
      case qc5 => omega
      case qc6 => simp; omega
      intro v6 w6 hown6 hgr hnil
      have Hown6 := Lib.hid (show w6.ownsRow (w.heap.size + 1 + 1 + 1) 46 5 v6 (k + 1) (flatL ((l.map (qt hi)).take (k + 1))) by rw [htk.out, flatL_append]; simpa [flatL] using hown6)
      have T6 : Below w.heap.size w w6 := grown_below (v := .slice va k vc) (by repeat (first | with_reducible exact Below.refl _ _ | (with_reducible refine kSet ?_ ?hB _; case hB => (simp; try omega)) | with_reducible refine kAlloc ?_ _ | with_reducible refine Below.drew ?_ | with_reducible refine kDrewN ?_ _ | with_reducible refine kTrans ?_ (by assumption))) hgr (by intro q hq; have := (Hblk.out q hq).1; omega)
      have hs6 := hgr.size
      have hold : ∀ j, j < w.heap.size + 1 + 1 + 1 → w6.heap[j]? = wr.heap[j]? := fun j hj => (hgr.block j (by simp; omega) (by intro e; have := (Hblk.out _ e.symm).1; omega)).trans ((Below.heap_alloc _ _ _ (by simp; omega)).trans (Below.heap_alloc _ _ _ (by omega)))
      have q1 := Lib.hid ((hold w.heap.size (by omega)).trans hb_.out)
      have q2 := Lib.hid ((hold (w.heap.size + 1) (by omega)).trans hr_.out)
      have q3 := Lib.hid ((hold (w.heap.size + 1 + 1) (by omega)).trans hx_.out)
      have hz6 : wr.heap.size + 1 + 1 ≤ w6.heap.size := by simpa using hs6
      obtain ⟨vb, vd, rfl⟩ := owns_slice Hown6.out
      clear hown6 hgr hnil hs6 hold x0 x1 x2 xf hb_ hr_ hx_ ho_ hT_ b1 d0 d1 d2 d3 d4
      have x2 : w6.cell? ⟨w.heap.size + 1 + 1, 2, none⟩ = some (.slice va k vc) := cell_of_row _ _ 2 _ _ _ q3.out
      have xf : ∀ j, w6.frozen? ⟨w.heap.size + 1 + 1, j, none⟩ = false := fun j => frozen_of_row _ _ j _ _ q3.out
      have z1 := Lib.hid (blk_set q1.out (p := ⟨w.heap.size + 1 + 1, 2, none⟩) (v := .slice vb (k + 1) vd) (show w.heap.size ≠ w.heap.size + 1 + 1 by omega))
      have z2 := Lib.hid (blk_set q2.out (p := ⟨w.heap.size + 1 + 1, 2, none⟩) (v := .slice vb (k + 1) vd) (show w.heap.size + 1 ≠ w.heap.size + 1 + 1 by omega))
      have z3 := Lib.hid (show (w6.setCell ⟨w.heap.size + 1 + 1, 2, none⟩ (.slice vb (k + 1) vd)).heap[w.heap.size + 1 + 1]? = some (.cells #[.int .i8 hi, .int .i8 wd, .slice vb (k + 1) vd] 30 (0, 0)) from blk_set_same q3.out)
      have z4 := Lib.hid (ownsRow_setCell_below Hown6.out (show (⟨w.heap.size + 1 + 1, 2, none⟩ : Addr).block < w.heap.size + 1 + 1 + 1 from Nat.lt_succ_self _) (.slice vb (k + 1) vd))
      have z5 := Lib.hid (kSet T6 (p := ⟨w.heap.size + 1 + 1, 2, none⟩) (show w.heap.size ≤ w.heap.size + 1 + 1 by omega) (.slice vb (k + 1) vd))
      clear q1 q2 q3 Hown6 T6
      go_wp2
      exact ⟨⟨k + 1, vb, vd, by omega, by go_num, z1, z2, z3, z4, z5.out⟩, by simp [intOf]; omega⟩
    · have e0 : k = n := by omega
      have hs := Lib.hid (show SlW (w.heap.size + 1 + 1 + 1) wr.heap.size wr (l.map (qt hi)) (.slice va k vc) by
        have h := SlW.of_owns ho_.out
        rw [e0, ← Hn.out, List.take_of_length_le (by rw [List.length_map]; exact Nat.le_refl _)] at h
        rw [e0, ← Hn.out]; exact h)
      have rs_ := hr_.out
      clear ho_ e0 hb_
      go_wp2_with (refine wpList_store_row rfl 30 _ _ rfl (w.heap.size + 1) #[.int .i8 hi, .int .i8 wd, .slice va k vc] rfl rfl 30 _ rs_ (by kernel_rfl) (by kernel_rfl) (by kernel_rfl) ?_)
      refine bodyPost_ret (v := .agg #[.int .i8 hi, .int .i8 wd, .slice va k vc]) (results_cell_row rfl _ _ (w.heap.size + 1) 30 #[.int .i8 hi, .int .i8 wd, .slice va k vc] (0, 0) _ rfl (setRow_heap _ _ _ _ _ _ rs_) Try.underlying30 rfl (by kernel_rfl)) rfl ?_
      exact ⟨_, rfl, (hs.out.row (by omega)).mono (by omega) (by simp [World.setRow]), kRowW hT_ (by omega) _⟩
set_option maxRecDepth 100000 in
set_option maxHeartbeats 4000000 in
theorem quarterTurned_none (a : Option Addr) (cap : Nat) (wd hi : Int) (w : World) :
    Calls Try.prog 91 #[.agg #[.int .i8 wd, .int .i8 hi, .slice a 0 cap]] w fun e w' => e = .returned (.agg #[.int .i8 hi, .int .i8 wd, .slice none 0 0]) ∧ Below w.heap.size w w' := by
  go_enter Try.func91, Try.ntmps91
  go_wp2
  refine wp_loop_rounds 1 ?_
  rw [rounds_succ]
  go_wp2
  exact bodyPost_ret (v := .agg #[.int .i8 hi, .int .i8 wd, .slice none 0 0]) (by simp [results, Try.results91, go_sem]) rfl ⟨rfl, by repeat (first | with_reducible exact Below.refl _ _ | (with_reducible refine kSet ?_ ?hB _; case hB => (simp; try omega)) | with_reducible refine kAlloc ?_ _ | with_reducible refine Below.drew ?_ | with_reducible refine kDrewN ?_ _ | with_reducible refine kTrans ?_ (by assumption))⟩
theorem quarterTurned_any (v : Value) (wd hi : Int) (l : List Pc) (w : World) (h : Sl w l v) (hF : Fine wd hi l) (hmax : l.length ≤ 1048576) :
    Calls Try.prog 91 #[.agg #[.int .i8 wd, .int .i8 hi, v]] w fun e w' => ∃ v', e = .returned (.agg #[.int .i8 hi, .int .i8 wd, v']) ∧ SlW w.heap.size w'.heap.size w' (l.map (qt hi)) v' ∧ Below w.heap.size w w' := by
  cases h with
  | empty a cap h => subst h; exact (quarterTurned_none a cap wd hi w).mono fun e w' ⟨h1, h2⟩ => ⟨_, h1, .empty none 0 rfl, h2⟩
  | mk b o cap hc hb hl => exact quarterTurned_mk b o _ cap wd hi l w rfl hc hb hl hF hmax
end Go.Proofs.Ythancdlkkfegnaa
