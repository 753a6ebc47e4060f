/- A valid board as ground for lines: free cells, ways. -/
import Derived.Test.YtekmdcakegfkmaaG2
import Derived.Test.YtekmdcakegfkmaaG4
import Derived.Deep.DeepCutAuto
namespace Go.Proofs.Ytekmdcakegfkmaa
open Go.ChangeShapes Go.WideShapes Go.ChangeAt Go.RowKit
set_option linter.unusedVariables false
set_option linter.unusedSimpArgs false

structure Wy where
  fx : Int
  fy : Int
  sd : Int
  tx : Int
  ty : Int
  ot : Int
def Wy.in8 (p : Wy) : Prop := i8 p.fx ∧ i8 p.fy ∧ i8 p.sd ∧ i8 p.tx ∧ i8 p.ty ∧ i8 p.ot
def WyAt (w : World) (b : Nat) (p : Wy) : Prop :=
  w.cell? ⟨b, 0, none⟩ = some (.int .i8 p.fx) ∧ w.cell? ⟨b, 1, none⟩ = some (.int .i8 p.fy) ∧ w.cell? ⟨b, 2, none⟩ = some (.int .i8 p.sd) ∧ w.cell? ⟨b, 3, none⟩ = some (.int .i8 p.tx) ∧ w.cell? ⟨b, 4, none⟩ = some (.int .i8 p.ty) ∧ w.cell? ⟨b, 5, none⟩ = some (.int .i8 p.ot)
theorem WyAt.below {W w' : World} {b : Nat} {p : Wy} (h : WyAt W b p) (hb : Below W.heap.size W w') (hl : b < W.heap.size) : WyAt w' b p := by
  obtain ⟨h0, h1, h2, h3, h4, h5⟩ := h
  exact ⟨(hb.cell (p := ⟨b, _, none⟩) hl).trans h0, (hb.cell (p := ⟨b, _, none⟩) hl).trans h1, (hb.cell (p := ⟨b, _, none⟩) hl).trans h2, (hb.cell (p := ⟨b, _, none⟩) hl).trans h3, (hb.cell (p := ⟨b, _, none⟩) hl).trans h4, (hb.cell (p := ⟨b, _, none⟩) hl).trans h5⟩
theorem WyAt.of {w : World} {b : Nat} {p : Wy} {t : TypeId} (h : w.heap[b]? = some (.cells #[.int .i8 p.fx, .int .i8 p.fy, .int .i8 p.sd, .int .i8 p.tx, .int .i8 p.ty, .int .i8 p.ot] t (0, 0))) : WyAt w b p :=
  ⟨cell_of_row _ _ 0 _ _ _ h, cell_of_row _ _ 1 _ _ _ h, cell_of_row _ _ 2 _ _ _ h, cell_of_row _ _ 3 _ _ _ h, cell_of_row _ _ 4 _ _ _ h, cell_of_row _ _ 5 _ _ _ h⟩
def inB' (wd hi x y : Int) : Bool := decide (0 ≤ x ∧ x ≤ wd - 1 ∧ 0 ≤ y ∧ y ≤ hi - 1)
def freeB (wd hi : Int) (l : List Pc) (x y : Int) : Bool := inB' wd hi x y && decide (findFrom x y l 0 < 0)
def sideB (n : Int) : Bool := decide (0 ≤ n ∧ n ≤ 3)
def apartB (p : Wy) : Bool := !(p.fx == p.tx && p.fy == p.ty) || !(p.sd == p.ot)
def wayB (wd hi : Int) (l : List Pc) (p : Wy) : Bool := freeB wd hi l p.fx p.fy && freeB wd hi l p.tx p.ty && sideB p.sd && sideB p.ot && apartB p
theorem inB'_lt {wd hi x y : Int} {b : Bool} (h : inB' wd hi x y = b) : b = decide (0 ≤ x ∧ x < wd ∧ 0 ≤ y ∧ y < hi) := by
  rw [← h]; unfold inB'; rw [Bool.eq_iff_iff]; simp only [decide_eq_true_eq]; omega
theorem inB'_le {wd hi x y : Int} {b : Bool} (h : inB' wd hi x y = b) : b = decide (0 ≤ x ∧ x ≤ wd - 1 ∧ 0 ≤ y ∧ y ≤ hi - 1) := h.symm
theorem freeB_out {wd hi : Int} {l : List Pc} {x y : Int} (h : inB' wd hi x y = false) : freeB wd hi l x y = false := by unfold freeB; rw [h]; rfl
theorem freeB_in {wd hi : Int} {l : List Pc} {x y : Int} (h : inB' wd hi x y = true) : freeB wd hi l x y = decide (findFrom x y l 0 < 0) := by unfold freeB; rw [h]; rfl
set_option maxRecDepth 100000 in
set_option maxHeartbeats 2000000 in
theorem isFree_any (wd hi x y : Int) (B : Nat) (vs : Value) (l : List Pc) (w : World) (hm : MapAt w B l) (bx : i8 x) (by' : i8 y) (hw8 : i8 wd) (hh8 : i8 hi) (R : Bool) (hR : R = freeB wd hi l x y) :
    Calls Try.prog 105 #[.agg #[.int .i8 wd, .int .i8 hi, .map (some B), .int .i8 wd, .int .i8 hi, vs], .agg #[.int .i8 x, .int .i8 y]] w fun e w' => e = .returned (.bool R) ∧ Below w.heap.size w w' := by
  have HM := Lib.hid hm
  have HR := Lib.hid hR
  clear hm hR
  cases g1 : inB' wd hi x y with
  | false =>
    obtain rfl : R = false := by rw [HR.out]; exact freeB_out g1
    have G1 := Lib.hid g1
    clear g1 HR
    go_enter Try.func105, Try.ntmps105
    go_wp2_with fail
    refine (holds_any x y wd hi _ bx by' hw8 hh8 false (inB'_lt G1.out)).mono ?_
    rintro e w1_ ⟨rfl, b1_⟩
    have B1_ : Below w.heap.size w w1_ := kTrans (kAlloc (kAlloc (Below.refl _ _) _) _) b1_
    have n1_ : w.heap.size + 2 ≤ w1_.heap.size := by have := b1_.size; simpa using this
    have T1_ : Below w.heap.size w w1_ := B1_
    have m_1_ := Lib.hid (HM.out.below B1_)
    have g_1_ := Lib.hid (show w1_.heap[w.heap.size]? = some (.cells #[.int .i8 wd, .int .i8 hi, .map (some B), .int .i8 wd, .int .i8 hi, vs] 152 (0, 0)) from blk_below ((Below.heap_alloc _ (.cells #[.int .i8 x, .int .i8 y] 26) _ (by simp; try omega)).trans (heap_alloc_new w (.cells #[.int .i8 wd, .int .i8 hi, .map (some B), .int .i8 wd, .int .i8 hi, vs] 152))) b1_)
    have c_1_ := Lib.hid (show w1_.heap[w.heap.size + 1]? = some (.cells #[.int .i8 x, .int .i8 y] 26 (0, 0)) from blk_below (show ((w.alloc (.cells #[.int .i8 wd, .int .i8 hi, .map (some B), .int .i8 wd, .int .i8 hi, vs] 152)).alloc (.cells #[.int .i8 x, .int .i8 y] 26)).heap[w.heap.size + 1]? = some _ from by have h := heap_alloc_new (w.alloc (.cells #[.int .i8 wd, .int .i8 hi, .map (some B), .int .i8 wd, .int .i8 hi, vs] 152)) (.cells #[.int .i8 x, .int .i8 y] 26); simpa only [World.size_alloc] using h) b1_)
    clear HM b1_ B1_
    go_wp2
    go_ret
    exact ⟨rfl, T1_⟩
  | true =>
    have hq := HR.out
    rw [freeB_in g1] at hq
    have G1 := Lib.hid g1
    clear g1 HR
    obtain ⟨f, hf⟩ : ∃ f, findFrom x y l 0 = f := ⟨_, rfl⟩
    rw [hf] at hq
    have Hf := Lib.hid hf
    clear hf
    have e1 : decide (f < 0) = R := hq.symm
    clear hq
    go_enter Try.func105, Try.ntmps105
    go_wp2_with fail
    refine (holds_any x y wd hi _ bx by' hw8 hh8 true (inB'_lt G1.out)).mono ?_
    rintro e w1_ ⟨rfl, b1_⟩
    have B1_ : Below w.heap.size w w1_ := kTrans (kAlloc (kAlloc (Below.refl _ _) _) _) b1_
    have n1_ : w.heap.size + 2 ≤ w1_.heap.size := by have := b1_.size; simpa using this
    have T1_ : Below w.heap.size w w1_ := B1_
    have m_1_ := Lib.hid (HM.out.below B1_)
    have g_1_ := Lib.hid (show w1_.heap[w.heap.size]? = some (.cells #[.int .i8 wd, .int .i8 hi, .map (some B), .int .i8 wd, .int .i8 hi, vs] 152 (0, 0)) from blk_below ((Below.heap_alloc _ (.cells #[.int .i8 x, .int .i8 y] 26) _ (by simp; try omega)).trans (heap_alloc_new w (.cells #[.int .i8 wd, .int .i8 hi, .map (some B), .int .i8 wd, .int .i8 hi, vs] 152))) b1_)
    have c_1_ := Lib.hid (show w1_.heap[w.heap.size + 1]? = some (.cells #[.int .i8 x, .int .i8 y] 26 (0, 0)) from blk_below (show ((w.alloc (.cells #[.int .i8 wd, .int .i8 hi, .map (some B), .int .i8 wd, .int .i8 hi, vs] 152)).alloc (.cells #[.int .i8 x, .int .i8 y] 26)).heap[w.heap.size + 1]? = some _ from by have h := heap_alloc_new (w.alloc (.cells #[.int .i8 wd, .int .i8 hi, .map (some B), .int .i8 wd, .int .i8 hi, vs] 152)) (.cells #[.int .i8 x, .int .i8 y] 26); simpa only [World.size_alloc] using h) b1_)
    clear HM b1_ B1_
    have cg_0 : w1_.cell? ⟨w.heap.size, 0, none⟩ = some (.int .i8 wd) := cell_of_row _ _ 0 _ _ _ g_1_.out
    have cg_1 : w1_.cell? ⟨w.heap.size, 1, none⟩ = some (.int .i8 hi) := cell_of_row _ _ 1 _ _ _ g_1_.out
    have cg_2 : w1_.cell? ⟨w.heap.size, 2, none⟩ = some (.map (some B)) := cell_of_row _ _ 2 _ _ _ g_1_.out
    have cg_3 : w1_.cell? ⟨w.heap.size, 3, none⟩ = some (.int .i8 wd) := cell_of_row _ _ 3 _ _ _ g_1_.out
    have cg_4 : w1_.cell? ⟨w.heap.size, 4, none⟩ = some (.int .i8 hi) := cell_of_row _ _ 4 _ _ _ g_1_.out
    have cg_5 : w1_.cell? ⟨w.heap.size, 5, none⟩ = some (vs) := cell_of_row _ _ 5 _ _ _ g_1_.out
    have cc_0 : w1_.cell? ⟨w.heap.size + 1, 0, none⟩ = some (.int .i8 x) := cell_of_row _ _ 0 _ _ _ c_1_.out
    have cc_1 : w1_.cell? ⟨w.heap.size + 1, 1, none⟩ = some (.int .i8 y) := cell_of_row _ _ 1 _ _ _ c_1_.out
    have hix := indexAt_any wd hi x y B l _ m_1_.out
    rw [Hf.out] at hix
    have Hix := Lib.hid hix
    clear hix
    go_wp2_with fail
    refine (Hix.out).mono ?_
    rintro e w2_ ⟨rfl, b2_⟩
    have n2_ : w1_.heap.size ≤ w2_.heap.size := b2_.size
    have T2_ : Below w.heap.size w w2_ := kTrans T1_ b2_
    have m_2_ := Lib.hid (m_1_.out.below b2_)
    have g_2_ := Lib.hid (blk_below g_1_.out b2_)
    have c_2_ := Lib.hid (blk_below c_1_.out b2_)
    clear cg_0 cg_1 cg_2 cg_3 cg_4 cg_5 cc_0 cc_1 m_1_ g_1_ c_1_ b2_ T1_
    go_wp2
    go_ret
    exact ⟨rfl, T2_⟩
theorem MapAt.neRow {w : World} {B b : Nat} {l : List Pc} {cs : Array Value} {t : TypeId} {fr : Nat × Nat} (h : MapAt w B l) (hc : w.heap[b]? = some (.cells cs t fr)) : B ≠ b := by
  obtain ⟨es, c, h1, _⟩ := h
  rintro rfl
  rw [h1] at hc
  cases hc
theorem MapAt.row {w : World} {B g : Nat} {l : List Pc} {cs : Array Value} (h : MapAt w B l) (hne : B ≠ g) : MapAt (w.setRow g cs) B l := by
  obtain ⟨es, c, h1, h2⟩ := h
  exact ⟨es, c, (setRow_other _ _ _ _ hne).trans h1, h2⟩
def GrPost (R : Bool) (wd hi : Int) (vs : Value) (l : List Pc) (w : World) (e : Ending) (w' : World) : Prop :=
  (R = true → ∃ B, e = .returned (.tuple #[.agg #[.int .i8 wd, .int .i8 hi, .map (some B), .int .i8 wd, .int .i8 hi, vs], .bool true]) ∧ MapAt w' B l) ∧
  (R = false → e = .returned (.tuple #[.agg #[.int .i8 0, .int .i8 0, .map none, .int .i8 wd, .int .i8 hi, vs], .bool false])) ∧ Below w.heap.size w w'
set_option maxRecDepth 100000 in
set_option maxHeartbeats 4000000 in
theorem groundOf_any (b n cap : Nat) (wd hi : Int) (l : List Pc) (w : World) (hn : l.length = n) (hp : PcsAt w b 0 l) (hb : b < w.heap.size) (hc : n ≤ cap) (h8 : All8 l) (hmax : n ≤ 1048576) (R : Bool) (hR : R = boardOk wd hi l) :
    Calls Try.prog 103 #[.agg #[.int .i8 wd, .int .i8 hi, .slice (some ⟨b, 0, none⟩) n cap]] w (GrPost R wd hi (.slice (some ⟨b, 0, none⟩) n cap) l w) := by
  have Hn := Lib.hid hn
  have HR := Lib.hid hR
  have hP := Lib.hid hp
  clear hn hR hp
  have bE : Below w.heap.size w ((w.alloc (.cells #[.int .i8 wd, .int .i8 hi, .slice (some ⟨b, 0, none⟩) n cap] 74)).alloc (.cells #[.int .i8 0, .int .i8 0, .map none, .int .i8 0, .int .i8 0, .slice none 0 0] 152)) := (kAlloc (kAlloc (Below.refl _ _) _) _)
  have HL := Lib.hid (layoutOf_any b 0 n cap wd hi l _ Hn.out (hP.out.below bE (by omega)) (by simp only [World.size_alloc]; omega) hc h8 hmax R HR.out)
  go_enter Try.func103, Try.ntmps103
  go_wp2_with fail
  refine HL.out.mono ?_
  clear HL
  cases R with
  | false =>
    rintro e w1_ ⟨_, h1_, b1_⟩
    obtain rfl := h1_ rfl
    clear h1_
    have B1_ : Below w.heap.size w w1_ := kTrans (kAlloc (kAlloc (Below.refl _ _) _) _) b1_
    have n1_ : w.heap.size + 2 ≤ w1_.heap.size := by have := b1_.size; simpa using this
    have T1_ : Below w.heap.size w w1_ := B1_
    have p_1_ := Lib.hid (hP.out.below B1_ (by omega))
    have b_1_ := Lib.hid (show w1_.heap[w.heap.size]? = some (.cells #[.int .i8 wd, .int .i8 hi, .slice (some ⟨b, 0, none⟩) n cap] 74 (0, 0)) from blk_below ((Below.heap_alloc _ (.cells #[.int .i8 0, .int .i8 0, .map none, .int .i8 0, .int .i8 0, .slice none 0 0] 152) _ (by simp; try omega)).trans (heap_alloc_new w (.cells #[.int .i8 wd, .int .i8 hi, .slice (some ⟨b, 0, none⟩) n cap] 74))) b1_)
    have r_1_ := Lib.hid (show w1_.heap[w.heap.size + 1]? = some (.cells #[.int .i8 0, .int .i8 0, .map none, .int .i8 0, .int .i8 0, .slice none 0 0] 152 (0, 0)) from blk_below (show ((w.alloc (.cells #[.int .i8 wd, .int .i8 hi, .slice (some ⟨b, 0, none⟩) n cap] 74)).alloc (.cells #[.int .i8 0, .int .i8 0, .map none, .int .i8 0, .int .i8 0, .slice none 0 0] 152)).heap[w.heap.size + 1]? = some _ from by have h := heap_alloc_new (w.alloc (.cells #[.int .i8 wd, .int .i8 hi, .slice (some ⟨b, 0, none⟩) n cap] 74)) (.cells #[.int .i8 0, .int .i8 0, .map none, .int .i8 0, .int .i8 0, .slice none 0 0] 152); simpa only [World.size_alloc] using h) b1_)
    clear bE hP b1_ B1_
    have bE : Below w1_.heap.size w1_ (w1_.alloc (.cells #[.int .i8 0, .int .i8 0, .map none] 146)) := (kAlloc (Below.refl _ _) _)
    have cb_0 : (w1_.alloc (.cells #[.int .i8 0, .int .i8 0, .map none] 146)).cell? ⟨w.heap.size, 0, none⟩ = some (.int .i8 wd) := cell_of_row _ _ 0 _ _ _ (blk_below b_1_.out bE)
    have cb_1 : (w1_.alloc (.cells #[.int .i8 0, .int .i8 0, .map none] 146)).cell? ⟨w.heap.size, 1, none⟩ = some (.int .i8 hi) := cell_of_row _ _ 1 _ _ _ (blk_below b_1_.out bE)
    have cb_2 : (w1_.alloc (.cells #[.int .i8 0, .int .i8 0, .map none] 146)).cell? ⟨w.heap.size, 2, none⟩ = some (.slice (some ⟨b, 0, none⟩) n cap) := cell_of_row _ _ 2 _ _ _ (blk_below b_1_.out bE)
    have rs_ := (blk_below r_1_.out bE)
    go_wp2_with (refine wpList_store_row rfl 152 _ _ rfl (w.heap.size + 1) #[.int .i8 0, .int .i8 0, .map none, .int .i8 wd, .int .i8 hi, .slice (some ⟨b, 0, none⟩) n cap] rfl rfl 152 _ rs_ (by kernel_rfl) (by kernel_rfl) (by kernel_rfl) ?_)
    refine bodyPost_ret (v := .tuple #[.agg #[.int .i8 0, .int .i8 0, .map none, .int .i8 wd, .int .i8 hi, .slice (some ⟨b, 0, none⟩) n cap], .bool false]) (results_cell_tmp rfl _ _ (w.heap.size + 1) 152 #[.int .i8 0, .int .i8 0, .map none, .int .i8 wd, .int .i8 hi, .slice (some ⟨b, 0, none⟩) n cap] (0, 0) _ _ rfl rfl (setRow_heap _ _ _ _ _ _ rs_) Try.underlying152 rfl (by kernel_rfl)) rfl ?_
    exact ⟨(fun h => nomatch h), (fun _ => rfl), kRowW (kTrans T1_ bE) (by omega) _⟩
  | true =>
    rintro e w1_ ⟨h1_, _, b1_⟩
    obtain ⟨B, rfl, hm_⟩ := h1_ rfl
    have hm1 := Lib.hid hm_
    clear h1_ hm_
    have B1_ : Below w.heap.size w w1_ := kTrans (kAlloc (kAlloc (Below.refl _ _) _) _) b1_
    have n1_ : w.heap.size + 2 ≤ w1_.heap.size := by have := b1_.size; simpa using this
    have T1_ : Below w.heap.size w w1_ := B1_
    have p_1_ := Lib.hid (hP.out.below B1_ (by omega))
    have b_1_ := Lib.hid (show w1_.heap[w.heap.size]? = some (.cells #[.int .i8 wd, .int .i8 hi, .slice (some ⟨b, 0, none⟩) n cap] 74 (0, 0)) from blk_below ((Below.heap_alloc _ (.cells #[.int .i8 0, .int .i8 0, .map none, .int .i8 0, .int .i8 0, .slice none 0 0] 152) _ (by simp; try omega)).trans (heap_alloc_new w (.cells #[.int .i8 wd, .int .i8 hi, .slice (some ⟨b, 0, none⟩) n cap] 74))) b1_)
    have r_1_ := Lib.hid (show w1_.heap[w.heap.size + 1]? = some (.cells #[.int .i8 0, .int .i8 0, .map none, .int .i8 0, .int .i8 0, .slice none 0 0] 152 (0, 0)) from blk_below (show ((w.alloc (.cells #[.int .i8 wd, .int .i8 hi, .slice (some ⟨b, 0, none⟩) n cap] 74)).alloc (.cells #[.int .i8 0, .int .i8 0, .map none, .int .i8 0, .int .i8 0, .slice none 0 0] 152)).heap[w.heap.size + 1]? = some _ from by have h := heap_alloc_new (w.alloc (.cells #[.int .i8 wd, .int .i8 hi, .slice (some ⟨b, 0, none⟩) n cap] 74)) (.cells #[.int .i8 0, .int .i8 0, .map none, .int .i8 0, .int .i8 0, .slice none 0 0] 152); simpa only [World.size_alloc] using h) b1_)
    clear bE hP b1_ B1_
    have bE : Below w1_.heap.size w1_ (w1_.alloc (.cells #[.int .i8 wd, .int .i8 hi, .map (some B)] 146)) := (kAlloc (Below.refl _ _) _)
    have cb_0 : (w1_.alloc (.cells #[.int .i8 wd, .int .i8 hi, .map (some B)] 146)).cell? ⟨w.heap.size, 0, none⟩ = some (.int .i8 wd) := cell_of_row _ _ 0 _ _ _ (blk_below b_1_.out bE)
    have cb_1 : (w1_.alloc (.cells #[.int .i8 wd, .int .i8 hi, .map (some B)] 146)).cell? ⟨w.heap.size, 1, none⟩ = some (.int .i8 hi) := cell_of_row _ _ 1 _ _ _ (blk_below b_1_.out bE)
    have cb_2 : (w1_.alloc (.cells #[.int .i8 wd, .int .i8 hi, .map (some B)] 146)).cell? ⟨w.heap.size, 2, none⟩ = some (.slice (some ⟨b, 0, none⟩) n cap) := cell_of_row _ _ 2 _ _ _ (blk_below b_1_.out bE)
    have lm_ := blk_lt (blk_below r_1_.out bE)
    have hmr_ : B ≠ w.heap.size + 1 := MapAt.neRow hm1.out r_1_.out
    have rs_ := (blk_below r_1_.out bE)
    go_wp2_with (refine wpList_store_row rfl 152 _ _ rfl (w.heap.size + 1) #[.int .i8 wd, .int .i8 hi, .map (some B), .int .i8 wd, .int .i8 hi, .slice (some ⟨b, 0, none⟩) n cap] rfl rfl 152 _ rs_ (by kernel_rfl) (by kernel_rfl) (by kernel_rfl) ?_)
    refine bodyPost_ret (v := .tuple #[.agg #[.int .i8 wd, .int .i8 hi, .map (some B), .int .i8 wd, .int .i8 hi, .slice (some ⟨b, 0, none⟩) n cap], .bool true]) (results_cell_tmp rfl _ _ (w.heap.size + 1) 152 #[.int .i8 wd, .int .i8 hi, .map (some B), .int .i8 wd, .int .i8 hi, .slice (some ⟨b, 0, none⟩) n cap] (0, 0) _ _ rfl rfl (setRow_heap _ _ _ _ _ _ rs_) Try.underlying152 rfl (by kernel_rfl)) rfl ?_
    exact ⟨(fun _ => ⟨B, rfl, MapAt.row (hm1.out.below bE) hmr_⟩), (fun h => nomatch h), kRowW (kTrans T1_ bE) (by omega) _⟩
set_option maxRecDepth 100000 in
set_option maxHeartbeats 4000000 in
theorem l05Free_any (bb b n cap : Nat) (wd hi x y : Int) (l : List Pc) (w : World) (hn : l.length = n) (hbd : BdAt w bb 0 wd hi (.slice (some ⟨b, 0, none⟩) n cap)) (hp : PcsAt w b 0 l) (hb : b < w.heap.size) (hc : n ≤ cap) (hmax : n ≤ 1048576) (bx : i8 x) (by' : i8 y) (hw8 : i8 wd) (hh8 : i8 hi) (R : Bool) (hR : R = freeB wd hi l x y) :
    Calls Try.prog 124 #[.pointer (some ⟨bb, 0, none⟩), .agg #[.int .i8 x, .int .i8 y]] w fun e w' => e = .returned (.bool R) ∧ Below w.heap.size w w' := by
  have hbb := hbd.lt
  have HF := Lib.hid (fun W (hW : Below w.heap.size w W) f (hf : findFrom x y l 0 = f) => l01Find_to bb 0 b 0 n cap wd hi x y f l W hn (hbd.below hW hbb) (hp.below hW hb) (Nat.lt_of_lt_of_le hb hW.size) hc hmax hf)
  obtain ⟨W, hW⟩ : ∃ W, W = w.alloc (.cells #[.int .i8 x, .int .i8 y] 26) := ⟨_, rfl⟩
  have kW : Below w.heap.size w W := by rw [hW]; exact kAlloc (Below.refl _ _) _
  have hx0 : W.cell? ⟨w.heap.size, 0, none⟩ = some (.int .i8 x) := by rw [hW]; simp
  have hx1 : W.cell? ⟨w.heap.size, 1, none⟩ = some (.int .i8 y) := by rw [hW]; simp
  have lx : w.heap.size < W.heap.size := by rw [hW]; simp
  obtain ⟨q0, q1, q2⟩ := hbd.below kW hbb
  have lb : bb < W.heap.size := Nat.lt_of_lt_of_le hbb kW.size
  have bw : -128 ≤ wd ∧ wd ≤ 127 := hw8
  have bh : -128 ≤ hi ∧ hi ≤ 127 := hh8
  have w1e : IntKind.i64.wrap wd = wd := IntWalk.i64_in _ (by omega)
  have w2e : IntKind.i64.wrap hi = hi := IntWalk.i64_in _ (by omega)
  have HW := Lib.hid hW
  have HR := Lib.hid hR
  clear hn hbd hp hW hR
  cases g1 : inB' wd hi x y with
  | false =>
    obtain rfl : R = false := by rw [HR.out]; exact freeB_out g1
    have G1 := Lib.hid g1
    clear g1 HR
    go_enter Try.func124, Try.ntmps124
    go_upto_region 1 with fail
    rw [← HW.out]
    refine wp_region_class (fun w' => Below W.heap.size W w') (by kernel_rfl) (by kernel_rfl) (Below.drew (Below.refl _ _)) ?_
    repeat (first
      | go_big_quiet_skip
      | (go_big_quiet_want; go_big_quiet_op; go_big_quiet_on)
      | (refine wpQuiet_step (fun K hK => ?_)
         go_simp
         refine hK _ ?_
         clear hK K)
      | (refine wpQuiet_step (fun K hK => ?_)
         go_simp
         apply Exists.intro
         refine ⟨fun w1 hw1 => ?_, hK _ ?_⟩
         · first
           | exact rfl
           | (go_at_call 99
              exact (l01In_any x y wd hi _ bx by' (by omega) (by omega) false (inB'_le G1.out)).mono fun e w2 h => ⟨h.1, kTrans hw1 h.2⟩)
           | (have d0 := (hw1.cell (p := ⟨w.heap.size, 0, none⟩) lx).trans hx0
              have d1 := (hw1.cell (p := ⟨w.heap.size, 1, none⟩) lx).trans hx1
              have d2 := (hw1.cell (p := ⟨bb, 0, none⟩) lb).trans q0
              have d3 := (hw1.cell (p := ⟨bb, 1, none⟩) lb).trans q1
              go_simp
              exact rfl)
         clear hK K))
    refine wpQuiet_nil ?_
    intro w2 hw2
    clear w1e w2e
    go_wp2
    go_ret
    exact ⟨rfl, kTrans kW hw2⟩
  | true =>
    have hq := HR.out
    rw [freeB_in g1] at hq
    obtain ⟨f, hf⟩ : ∃ f, findFrom x y l 0 = f := ⟨_, rfl⟩
    rw [hf] at hq
    have Hf := Lib.hid hf
    have e1 : decide (f < 0) = R := hq.symm
    have G1 := Lib.hid g1
    clear g1 HR hq hf
    go_enter Try.func124, Try.ntmps124
    go_upto_region 1 with fail
    rw [← HW.out]
    refine wp_region_class (fun w' => Below W.heap.size W w') (by kernel_rfl) (by kernel_rfl) (Below.drew (Below.refl _ _)) ?_
    repeat (first
      | go_big_quiet_skip
      | (go_big_quiet_want; go_big_quiet_op; go_big_quiet_on)
      | (refine wpQuiet_step (fun K hK => ?_)
         go_simp
         refine hK _ ?_
         clear hK K)
      | (refine wpQuiet_step (fun K hK => ?_)
         go_simp
         apply Exists.intro
         refine ⟨fun w1 hw1 => ?_, hK _ ?_⟩
         · first
           | exact rfl
           | (go_at_call 99
              exact (l01In_any x y wd hi _ bx by' (by omega) (by omega) true (inB'_le G1.out)).mono fun e w2 h => ⟨h.1, kTrans hw1 h.2⟩)
           | (go_at_call 91
              exact (HF.out w1 (kTrans kW hw1) f Hf.out).mono fun e w2 h => ⟨h.1, kTrans hw1 h.2⟩)
           | (have d0 := (hw1.cell (p := ⟨w.heap.size, 0, none⟩) lx).trans hx0
              have d1 := (hw1.cell (p := ⟨w.heap.size, 1, none⟩) lx).trans hx1
              have d2 := (hw1.cell (p := ⟨bb, 0, none⟩) lb).trans q0
              have d3 := (hw1.cell (p := ⟨bb, 1, none⟩) lb).trans q1
              go_simp
              exact rfl)
         clear hK K))
    refine wpQuiet_nil ?_
    intro w2 hw2
    clear w1e w2e
    go_wp2
    go_ret
    exact ⟨rfl, kTrans kW hw2⟩
end Go.Proofs.Ytekmdcakegfkmaa
