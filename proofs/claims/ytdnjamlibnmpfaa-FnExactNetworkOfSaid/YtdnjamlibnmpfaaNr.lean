/- Networks that a function returns: marks, what is held, and alike. -/
import Derived.Test.YtdnjamlibnmpfaaG19
namespace Go.Proofs.Ytdnjamlibnmpfaa
open Go.ChangeShapes Go.WideShapes Go.ChangeAt Go.RowKit Go.Joins Go.Deep
set_option linter.unusedVariables false
set_option linter.unusedSimpArgs false

/-- a network's two slices in rows of their own between lo and hi, the nodes ahead of the outputs -/
inductive NwR (lo hi : Nat) (w : World) (l : List Nd) (p : List Int) : Value → Value → Prop where
  | mk (mid : Nat) (v u : Value) (h1 : lo ≤ mid) (h2 : mid ≤ hi) (nd : SlWNd lo mid w l v) (sh : SlWSh mid hi w p u) : NwR lo hi w l p v u
theorem NwR.below {lo hi : Nat} {w w' : World} {l : List Nd} {p : List Int} {v u : Value} (h : NwR lo hi w l p v u) (g : Below w.heap.size w w') : NwR lo hi w' l p v u := by
  cases h with
  | mk mid v u h1 h2 nd sh => exact .mk mid v u h1 h2 (nd.below g) (sh.below g)
theorem NwR.out {lo hi lo2 hi2 : Nat} {w w' : World} {l : List Nd} {p : List Int} {v u : Value} (h : NwR lo hi w l p v u) (g : KeptOut lo2 hi2 w w') (ho : hi ≤ lo2 ∨ hi2 ≤ lo) : NwR lo hi w' l p v u := by
  cases h with
  | mk mid v u h1 h2 nd sh => exact .mk mid v u h1 h2 (nd.out g (by omega)) (sh.out g (by omega))
theorem NwR.mono {lo hi lo2 hi2 : Nat} {w : World} {l : List Nd} {p : List Int} {v u : Value} (h : NwR lo hi w l p v u) (h1' : lo2 ≤ lo) (h2' : hi ≤ hi2) : NwR lo2 hi2 w l p v u := by
  cases h with
  | mk mid v u h1 h2 nd sh => exact .mk mid v u (by omega) (by omega) (nd.mono h1' (Nat.le_refl _)) (sh.mono (Nat.le_refl _) h2')
theorem NwR.form {lo hi : Nat} {w : World} {l : List Nd} {p : List Int} {v u : Value} (h : NwR lo hi w l p v u) : ∃ a c b d, v = .slice a l.length c ∧ u = .slice b p.length d := by
  cases h with
  | mk mid v u h1 h2 nd sh =>
    obtain ⟨a, c, rfl⟩ := nd.form
    obtain ⟨b, d, rfl⟩ := sh.form
    exact ⟨a, c, b, d, rfl, rfl⟩
theorem NwR.s1 {lo hi : Nat} {w : World} {l : List Nd} {p : List Int} {v u : Value} (h : NwR lo hi w l p v u) : SlNd w l v := by cases h with | mk mid v u h1 h2 nd sh => exact nd.sl
theorem NwR.s2 {lo hi : Nat} {w : World} {l : List Nd} {p : List Int} {v u : Value} (h : NwR lo hi w l p v u) : SlSh w p u := by cases h with | mk mid v u h1 h2 nd sh => exact sh.sl
set_option maxRecDepth 100000 in
set_option maxHeartbeats 4000000 in
theorem markNetwork_r (lo hi : Nat) (ni : Int) (v u : Value) (l : List Nd) (p : List Int) (x : Int) (w : World) (h : NwR lo hi w l p v u) (hhi : hi ≤ w.heap.size) (hk0 : 0 ≤ x) (hk1 : x ≤ 80000000) (m0 : l.length ≤ 1048576) (m1 : p.length ≤ 1048576) :
    Calls Try.prog 11 #[.agg #[.int .i8 ni, v, u], .int .i64 x] w fun e w' => e = .returned (.int .i64 (x + 3 * l.length + 1 * p.length)) ∧ NwR lo hi w' (marksNd x l.length) (marksSh (x + 3 * l.length) p.length) v u ∧ KeptOut lo hi w w' := by
  obtain ⟨W, hW⟩ : ∃ W, w.alloc (.cells #[.int .i8 ni, v, u] 30) = W := ⟨_, rfl⟩
  have ka : Below w.heap.size w W := by rw [← hW]; exact kAlloc (Below.refl _ _) _
  have H := h.below ka
  have bm : W.heap[w.heap.size]? = some (.cells #[.int .i8 ni, v, u] 30 (0, 0)) := by rw [← hW]; exact nNew _ _
  have hlt := blk_lt bm
  obtain ⟨mid, hl1, hl2, nd, sh⟩ : ∃ mid, lo ≤ mid ∧ mid ≤ hi ∧ SlWNd lo mid W l v ∧ SlWSh mid hi W p u := by cases H with | mk mid v u h1 h2 nd sh => exact ⟨mid, h1, h2, nd, sh⟩
  obtain ⟨a, c, rfl⟩ := nd.form
  obtain ⟨b, d, rfl⟩ := sh.form
  have S0 := Lib.hid nd
  have S1 := Lib.hid sh
  have BM := Lib.hid bm
  have HW := Lib.hid hW
  have K0 := Lib.hid (KeptOut.of_below (lo := lo) (hi := hi) ka)
  obtain ⟨c0, c1, c2⟩ := NwAt.of bm
  have q0 : (3 : Int) * l.length ≤ 3 * 1048576 := by omega
  clear h H bm hW ka nd sh
  go_enter Try.func11, Try.ntmps11
  go_upto_region 1 with fail
  try rw [HW.out]
  go_wp2_with fail
  refine (markNodeS_any lo mid _ l x _ S0.out hk0 (by omega) m0).mono ?_
  rintro e w1 ⟨rfl, n1, k1⟩
  have bm1 := Lib.hid (blk_out BM.out k1 (by omega))
  have S1a := Lib.hid (S1.out.out k1 (by omega))
  have K1 := Lib.hid (K0.out.trans (k1.widen (Nat.le_refl _) (by omega)))
  have N1 := Lib.hid n1
  have z1 := k1.size
  clear c0 c1 c2 S0 S1 BM K0 k1 HW n1
  obtain ⟨c0, c1, c2⟩ := NwAt.of bm1.out
  go_wp2_with fail
  refine (markInt16S_any mid hi _ p _ _ S1a.out (by omega) (by omega) m1).mono ?_
  rintro e w2 ⟨rfl, n2, k2⟩
  have K2 := Lib.hid (K1.out.trans (k2.widen (by omega) (Nat.le_refl _)))
  have N1b := Lib.hid (N1.out.out k2 (by omega))
  have N2 := Lib.hid n2
  clear c0 c1 c2 S1a bm1 K1 k2 n2 N1
  go_wp2
  go_ret
  rw [Int.one_mul]
  exact ⟨rfl, .mk mid _ _ hl1 hl2 N1b.out N2.out, K2.out⟩
set_option maxRecDepth 100000 in
set_option maxHeartbeats 4000000 in
theorem heldNetwork_r (lo hi n q : Nat) (ni : Int) (v u : Value) (x : Int) (w : World) (h : NwR lo hi w (marksNd x n) (marksSh (x + 3 * n) q) v u) (hk0 : 0 ≤ x) (hk1 : x ≤ 80000000) (m0 : n ≤ 1048576) (m1 : q ≤ 1048576) :
    Calls Try.prog 12 #[.agg #[.int .i8 ni, v, u], .int .i64 x] w fun e w' => e = .returned (.int .i64 (x + 3 * n + 1 * q)) ∧ Below w.heap.size w w' := by
  obtain ⟨W, hW⟩ : ∃ W, w.alloc (.cells #[.int .i8 ni, v, u] 30) = W := ⟨_, rfl⟩
  have ka : Below w.heap.size w W := by rw [← hW]; exact kAlloc (Below.refl _ _) _
  have H := h.below ka
  have bm : W.heap[w.heap.size]? = some (.cells #[.int .i8 ni, v, u] 30 (0, 0)) := by rw [← hW]; exact nNew _ _
  have hlt := blk_lt bm
  obtain ⟨mid, nd, sh⟩ : ∃ mid, SlWNd lo mid W (marksNd x n) v ∧ SlWSh mid hi W (marksSh (x + 3 * n) q) u := by cases H with | mk mid v u h1 h2 nd sh => exact ⟨mid, nd, sh⟩
  obtain ⟨a, c, rfl⟩ := nd.form
  obtain ⟨b, d, rfl⟩ := sh.form
  have q0 : (3 : Int) * n ≤ 3 * 1048576 := by omega
  have S0 := Lib.hid nd
  have S1 := Lib.hid (fun w1 (g : Below W.heap.size W w1) => heldInt16S_any mid hi q _ (x + 3 * n) w1 (sh.below g) (by omega) (by omega) m1)
  have BM := Lib.hid bm
  have HW := Lib.hid hW
  have K0 := Lib.hid ka
  obtain ⟨c0, c1, c2⟩ := NwAt.of bm
  have c1' := c1
  clear h H bm hW ka nd sh
  go_enter Try.func12, Try.ntmps12
  go_upto_region 1 with fail
  try rw [HW.out]
  go_wp2_with fail
  refine (heldNodeS_any lo mid n _ x _ S0.out hk0 (by omega) m0).mono ?_
  rintro e w1 ⟨rfl, k1⟩
  have bm1 := Lib.hid (blk_below BM.out k1)
  have HI := Lib.hid (S1.out w1 k1)
  have K1 := Lib.hid (kTrans K0.out k1)
  have z1 := k1.size
  have hx0 : ¬ (x + 3 * (n : Int) < 0) := by omega
  clear c0 c1 c2 c1' S0 S1 BM K0 k1 HW
  obtain ⟨c0, c1, c2⟩ := NwAt.of bm1.out
  go_wp2_with fail
  refine HI.out.mono ?_
  rintro e w2 ⟨rfl, k2⟩
  have K2 := Lib.hid (kTrans K1.out k2)
  have hy0 : ¬ (x + 3 * (n : Int) + (q : Int) < 0) := by omega
  have hy1 : ¬ (x + 3 * (n : Int) + 1 * (q : Int) < 0) := by omega
  clear c0 c1 c2 bm1 K1 k2 HI
  go_wp2
  go_ret
  rw [Int.one_mul]
  exact ⟨rfl, K2.out⟩
theorem eqNetwork_r {lo hi lo2 hi2 : Nat} (ni : Int) (v u v2 u2 : Value) (l : List Nd) (p : List Int) (w : World) (h : NwR lo hi w l p v u) (h2 : NwR lo2 hi2 w l p v2 u2) (h8 : NdsWf l) (h9 : ShsWf p) (m0 : l.length ≤ 1048576) (m1 : p.length ≤ 1048576) :
    Calls Try.prog 10 #[.agg #[.int .i8 ni, v, u], .agg #[.int .i8 ni, v2, u2]] w fun e w' => e = .returned (.bool true) ∧ Below w.heap.size w w' :=
  eqNetwork_any ni v u v2 u2 l p w h.s1 h.s2 h2.s1 h2.s2 h8 h9 m0 m1
end Go.Proofs.Ytdnjamlibnmpfaa
