/- The makers of networks: nodes one behind the other. -/
import Derived.Test.YtdnjamlibnmpfaaMg2
namespace Go.Proofs.Ytdnjamlibnmpfaa
open Go.ChangeShapes Go.WideShapes Go.ChangeAt Go.RowKit Go.Joins Go.Deep
set_option linter.unusedVariables false
set_option linter.unusedSimpArgs false

/-- but for a box and rows of nodes all is as it was -/
structure KN (w w' : World) (B : Nat) : Prop where
  os : w'.os = w.os
  tape : w'.tape = w.tape
  output : w'.output = w.output
  size : w.heap.size ≤ w'.heap.size
  block : ∀ k cs t, w.heap[k]? = some (.cells cs t (0, 0)) → t ≠ 48 → k ≠ B → w'.heap[k]? = w.heap[k]?
theorem KN.trans {a b c : World} {B : Nat} (h : KN a b B) (g : KN b c B) : KN a c B :=
  ⟨g.os.trans h.os, g.tape.trans h.tape, g.output.trans h.output, Nat.le_trans h.size g.size, fun k cs t hk ht hB => (g.block k cs t ((h.block k cs t hk ht hB).trans hk) ht hB).trans (h.block k cs t hk ht hB)⟩
theorem KN.of_below {w w' : World} {B : Nat} (h : Below w.heap.size w w') : KN w w' B := ⟨h.os, h.tape, h.output, h.size, fun k _ _ hk _ _ => h.block k (blk_lt hk)⟩
theorem own_KN {w w' : World} {b s n B : Nat} {e T : TypeId} {v : Value} {xs : List Value} {cs : Array Value} (h : w.ownsRow b e s v n xs) (g : KN w w' B) (he : e ≠ 48) (hB : w.heap[B]? = some (.cells cs T (0, 0))) (hT : T ≠ e) : w'.ownsRow b e s v n xs := by
  refine ⟨h.1, ?_⟩
  rcases h.2 with h5 | ⟨q, cap, cur, rfl, h6, h7, r⟩
  · exact .inl h5
  · refine .inr ⟨q, cap, cur, rfl, h6, (g.block q _ _ h7 he (fun e' => ?_)).trans h7, r⟩
    subst e'
    rw [hB] at h7
    injection h7 with h8
    injection h8 with h9 h10
    exact hT h10
/-- nodes in a box -/
structure BS (w : World) (B : Nat) (T : TypeId) (acc : List Nd) : Prop where
  ex : ∃ v, w.heap[B]? = some (.cells #[v] T (0, 0)) ∧ w.ownsRow (B + 1) 48 3 v acc.length (flatNd acc)
theorem BS.below {w w' : World} {B : Nat} {T : TypeId} {acc : List Nd} (h : BS w B T acc) (b : Below w.heap.size w w') : BS w' B T acc := by
  obtain ⟨v, h1, h2⟩ := h.ex
  exact ⟨v, blk_below h1 b, owns_below h2 b⟩
theorem BS.lt {w : World} {B : Nat} {T : TypeId} {acc : List Nd} (h : BS w B T acc) : B < w.heap.size := by
  obtain ⟨v, h1, h2⟩ := h.ex
  exact blk_lt h1
def BP (B : Nat) (T : TypeId) (acc : List Nd) (r : Int) (w : World) (e : Ending) (w' : World) : Prop := e = .returned (.int .i16 r) ∧ BS w' B T acc ∧ Below B w w' ∧ KN w w' B
theorem putB_any (B : Nat) (acc : List Nd) (t : Nd) (w : World) (h : BS w B 72 acc) (hl : acc.length ≤ 990) :
    Calls Try.prog 25 #[.pointer (some ⟨B, 0, none⟩), .agg #[.int .i8 t.kind, .int .i16 t.a, .int .i16 t.b]] w (BP B 72 (acc ++ [t]) acc.length w) := by
  obtain ⟨v, h1, h2⟩ := h.ex
  have hlt := blk_lt h1
  refine (putN_at B 0 (B + 1) _ 72 v acc t w h1 rfl (by decide) h2 hlt (by omega)).mono ?_
  rintro e w' ⟨rfl, ⟨v', ho, hn⟩, hk⟩
  refine ⟨rfl, ⟨v', by rw [ho]; rfl, hn⟩, ⟨hk.os, hk.tape, hk.output, hk.size, fun k hkB => hk.block k (Nat.lt_trans hkB hlt) (by omega) (fun e => by have := (h2.lt k e).1; omega)⟩, ⟨hk.os, hk.tape, hk.output, hk.size, fun k cs t hk1 ht hB => hk.block k (blk_lt hk1) hB (row_block h2 hk1 ht)⟩⟩
set_option maxRecDepth 100000 in
set_option maxHeartbeats 4000000 in
theorem add_any (B : Nat) (acc : List Nd) (kd x y : Int) (w : World) (h : BS w B 66 acc) (hl : acc.length ≤ 990) :
    Calls Try.prog 36 #[.pointer (some ⟨B, 0, none⟩), .int .i8 kd, .int .i16 x, .int .i16 y] w (BP B 66 (acc ++ [⟨kd, x, y⟩]) acc.length w) := by
  obtain ⟨v, h1, h2⟩ := h.ex
  have hlt := blk_lt h1
  obtain ⟨i0, hi0, hz0, hzz1, hzz2⟩ := info_parts info_NdL
  have Hi := Lib.hid hi0
  have Hz0 := Lib.hid hz0
  have Hz1 := Lib.hid hzz1
  have Hz2 := Lib.hid hzz2
  obtain ⟨va, vc, rfl⟩ := owns_slice h2
  obtain ⟨m, hm⟩ : ∃ m, acc.length = m := ⟨_, rfl⟩
  have Hm := Lib.hid hm
  rw [hm] at h1 h2 hl ⊢
  have H1 := Lib.hid h1
  have H2 := Lib.hid h2
  have c0 : w.cell? ⟨B, 0, none⟩ = some (.slice va m vc) := cell_of_row _ _ 0 _ _ _ h1
  have Hsz := Lib.hid (show B + 1 ≤ (w.alloc (.cells #[.int .i8 kd, .int .i16 x, .int .i16 y] 48)).heap.size by simp; omega)
  clear hi0 hz0 hzz1 hzz2 h1 h2 h hm
  go_enter Try.func36, Try.ntmps36
  go_wp2_with (at_builtin; refine wpList_append_own _ rfl _ _ 28 rfl (B + 1) 48 i0 _ 3 6 Try.underlying28 Hi.out Hz0.out Hz1.out Hz2.out rfl (by decide) (.slice va m vc) m (flatNd acc) rfl (owns_below H2.out (kAlloc (Below.refl _ _) _)) ⟨w.heap.size, 0, none⟩ 1 1 [.int .i8 kd, .int .i16 x, .int .i16 y] rfl rfl (World.news_of_block (cs := #[.int .i8 kd, .int .i16 x, .int .i16 y]) (heap_alloc_new _ _)) (by simp [Value.oneCell']) ?qc4 ?qc5 ?qc6 ?_)
  case qc4 => unfold maxLen; omega
  case qc5 => omega
  case qc6 => first | exact Hsz.out | (have h_ := Hsz.out; rw [World.size_alloc] at h_; exact h_)
  intro v7 w7 hown7 hgr hnil
  have hka : Below w.heap.size w (w.alloc (.cells #[.int .i8 kd, .int .i16 x, .int .i16 y] 48)) := kAlloc (Below.refl _ _) _
  have hown8 : w7.ownsRow (B + 1) 48 3 v7 (acc ++ [(⟨kd, x, y⟩ : Nd)]).length (flatNd (acc ++ [⟨kd, x, y⟩])) := by rw [flatNd_end, List.length_append, Hm.out]; exact hown7
  have hO7 := (hgr.block B (Nat.lt_of_lt_of_le hlt hka.size) (fun e => row_block (owns_below H2.out hka) (blk_below H1.out hka) (by decide) e.symm)).trans (blk_below H1.out hka)
  have f7 : w7.frozen? ⟨B, 0, none⟩ = false := frozen_of_row _ _ 0 _ _ hO7
  have d7 : w7.cell? ⟨B, 0, none⟩ = some (.slice va m vc) := cell_of_row _ _ 0 _ _ _ hO7
  have hl7 := blk_lt hO7
  have hm16 : IntKind.i16.wrap (m : Int) = m := IntWalk.i16_in _ (by omega)
  obtain ⟨ua7, uc7, rfl⟩ := owns_slice hown7
  have HS := Lib.hid (show BS (w7.setCell ⟨B, 0, none⟩ (.slice ua7 (m + 1) uc7)) B 66 (acc ++ [(⟨kd, x, y⟩ : Nd)]) from ⟨_, one_setN hO7, owns_set_far hown8 hO7 (by decide) 0 _⟩)
  have B7 : Below B w w7 := ((hka.mono (Nat.le_of_lt hlt))).trans ⟨hgr.os, hgr.tape, hgr.output, by have h1 := hgr.size; have h2 := hka.size; omega, fun k hk => hgr.block k (by have h2 := hka.size; omega) (fun e => by have := ((owns_below H2.out hka).lt k e.symm).1; omega)⟩
  have HB8 := Lib.hid (B7.setCell (p := ⟨B, 0, none⟩) (Nat.le_refl _) (.slice ua7 (m + 1) uc7))
  have HK8 : Hid (KN w (w7.setCell ⟨B, 0, none⟩ (.slice ua7 (m + 1) uc7)) B) := Lib.hid ⟨B7.os, B7.tape, B7.output, by have h1 := hgr.size; have h2 := hka.size; simp [World.setCell]; omega, fun k cs t hk ht hB => (Below.heap_setCell _ _ _ _ hB).trans ((hgr.block k (Nat.lt_of_lt_of_le (blk_lt hk) hka.size) (fun e => row_block (owns_below H2.out hka) (blk_below hk hka) ht e.symm)).trans (hka.block k (blk_lt hk)))⟩
  clear hown7 hgr hnil hO7 hown8 B7 hka c0
  go_wp2
  go_ret
  exact ⟨rfl, HS.out, HB8.out, HK8.out⟩
set_option maxRecDepth 100000 in
set_option maxHeartbeats 4000000 in
theorem bone_any (B : Nat) (acc : List Nd) (w : World) (h : BS w B 72 acc) (hl : acc.length ≤ 985) :
    Calls Try.prog 68 #[.pointer (some ⟨B, 0, none⟩)] w (BP B 72 (acc ++ [⟨1, 0, 0⟩]) ((acc.length : Int)) w) := by
  obtain ⟨m, hm⟩ : ∃ m, acc.length = m := ⟨_, rfl⟩
  rw [hm] at hl ⊢
  have Hm := Lib.hid hm
  have H0 := Lib.hid h
  have B0 := Lib.hid (show Below B w w from Below.refl _ _)
  have K0 := Lib.hid (show KN w w B from KN.of_below (Below.refl _ _))
  clear hm h
  go_enter Try.func68, Try.ntmps68
  have C0 := Lib.hid (putB_any B acc ⟨1, 0, 0⟩ w H0.out (by rw [Hm.out]; omega))
  go_wp2_with fail
  refine (C0.out).mono ?_
  rintro e w1 ⟨rfl, hs, hb, hk⟩
  try rw [Hm.out]
  have H1 := Lib.hid hs
  have B1 := Lib.hid (B0.out.trans hb)
  have K1 := Lib.hid (K0.out.trans hk)
  clear hs hb hk C0
  go_wp2
  go_ret
  refine ⟨?_, by simpa using H1.out, B1.out, K1.out⟩
  first | rfl | (congr 2; simp [Hm.out]; try omega)
set_option maxRecDepth 100000 in
set_option maxHeartbeats 4000000 in
theorem bin_any (B : Nat) (acc : List Nd) (q : Nat) (w : World) (h : BS w B 72 acc) (hl : acc.length ≤ 985) (hq : q ≤ 100) :
    Calls Try.prog 41 #[.pointer (some ⟨B, 0, none⟩), .int .i64 q] w (BP B 72 (acc ++ [⟨0, q, 0⟩]) ((acc.length : Int)) w) := by
  obtain ⟨m, hm⟩ : ∃ m, acc.length = m := ⟨_, rfl⟩
  rw [hm] at hl ⊢
  have Hm := Lib.hid hm
  have H0 := Lib.hid h
  have B0 := Lib.hid (show Below B w w from Below.refl _ _)
  have K0 := Lib.hid (show KN w w B from KN.of_below (Below.refl _ _))
  clear hm h
  have hq16 : IntKind.i16.wrap (q : Int) = q := IntWalk.i16_in _ (by omega)
  go_enter Try.func41, Try.ntmps41
  have C0 := Lib.hid (putB_any B acc ⟨0, (q : Int), 0⟩ w H0.out (by rw [Hm.out]; omega))
  go_wp2_with fail
  refine (C0.out).mono ?_
  rintro e w1 ⟨rfl, hs, hb, hk⟩
  try rw [Hm.out]
  have H1 := Lib.hid hs
  have B1 := Lib.hid (B0.out.trans hb)
  have K1 := Lib.hid (K0.out.trans hk)
  clear hs hb hk C0
  go_wp2
  go_ret
  refine ⟨?_, by simpa using H1.out, B1.out, K1.out⟩
  first | rfl | (congr 2; simp [Hm.out]; try omega)
set_option maxRecDepth 100000 in
set_option maxHeartbeats 4000000 in
theorem bor_any (B : Nat) (acc : List Nd) (x y : Int) (w : World) (h : BS w B 72 acc) (hl : acc.length ≤ 985) :
    Calls Try.prog 44 #[.pointer (some ⟨B, 0, none⟩), .int .i16 x, .int .i16 y] w (BP B 72 (acc ++ [⟨2, x, y⟩]) ((acc.length : Int)) w) := by
  obtain ⟨m, hm⟩ : ∃ m, acc.length = m := ⟨_, rfl⟩
  rw [hm] at hl ⊢
  have Hm := Lib.hid hm
  have H0 := Lib.hid h
  have B0 := Lib.hid (show Below B w w from Below.refl _ _)
  have K0 := Lib.hid (show KN w w B from KN.of_below (Below.refl _ _))
  clear hm h
  go_enter Try.func44, Try.ntmps44
  have C0 := Lib.hid (putB_any B acc ⟨2, x, y⟩ w H0.out (by rw [Hm.out]; omega))
  go_wp2_with fail
  refine (C0.out).mono ?_
  rintro e w1 ⟨rfl, hs, hb, hk⟩
  try rw [Hm.out]
  have H1 := Lib.hid hs
  have B1 := Lib.hid (B0.out.trans hb)
  have K1 := Lib.hid (K0.out.trans hk)
  clear hs hb hk C0
  go_wp2
  go_ret
  refine ⟨?_, by simpa using H1.out, B1.out, K1.out⟩
  first | rfl | (congr 2; simp [Hm.out]; try omega)
set_option maxRecDepth 100000 in
set_option maxHeartbeats 4000000 in
theorem bunless_any (B : Nat) (acc : List Nd) (x y : Int) (w : World) (h : BS w B 72 acc) (hl : acc.length ≤ 985) :
    Calls Try.prog 62 #[.pointer (some ⟨B, 0, none⟩), .int .i16 x, .int .i16 y] w (BP B 72 (acc ++ [⟨3, x, y⟩]) ((acc.length : Int)) w) := by
  obtain ⟨m, hm⟩ : ∃ m, acc.length = m := ⟨_, rfl⟩
  rw [hm] at hl ⊢
  have Hm := Lib.hid hm
  have H0 := Lib.hid h
  have B0 := Lib.hid (show Below B w w from Below.refl _ _)
  have K0 := Lib.hid (show KN w w B from KN.of_below (Below.refl _ _))
  clear hm h
  go_enter Try.func62, Try.ntmps62
  have C0 := Lib.hid (putB_any B acc ⟨3, x, y⟩ w H0.out (by rw [Hm.out]; omega))
  go_wp2_with fail
  refine (C0.out).mono ?_
  rintro e w1 ⟨rfl, hs, hb, hk⟩
  try rw [Hm.out]
  have H1 := Lib.hid hs
  have B1 := Lib.hid (B0.out.trans hb)
  have K1 := Lib.hid (K0.out.trans hk)
  clear hs hb hk C0
  go_wp2
  go_ret
  refine ⟨?_, by simpa using H1.out, B1.out, K1.out⟩
  first | rfl | (congr 2; simp [Hm.out]; try omega)
set_option maxRecDepth 100000 in
set_option maxHeartbeats 4000000 in
theorem bxor_any (B : Nat) (acc : List Nd) (x y : Int) (w : World) (h : BS w B 72 acc) (hl : acc.length ≤ 980) :
    Calls Try.prog 42 #[.pointer (some ⟨B, 0, none⟩), .int .i16 x, .int .i16 y] w (BP B 72 (acc ++ [⟨3, x, y⟩, ⟨3, y, x⟩, ⟨2, acc.length, acc.length + 1⟩]) ((acc.length : Int) + 2) w) := by
  obtain ⟨m, hm⟩ : ∃ m, acc.length = m := ⟨_, rfl⟩
  rw [hm] at hl ⊢
  have Hm := Lib.hid hm
  have H0 := Lib.hid h
  have B0 := Lib.hid (show Below B w w from Below.refl _ _)
  have K0 := Lib.hid (show KN w w B from KN.of_below (Below.refl _ _))
  clear hm h
  go_enter Try.func42, Try.ntmps42
  have C0 := Lib.hid (bunless_any B (acc) x y w H0.out (by rw [Hm.out]; omega))
  go_wp2_with fail
  refine (C0.out).mono ?_
  rintro e w1 ⟨rfl, hs, hb, hk⟩
  try rw [show ((acc : List Nd).length : Int) = (m : Int) by rw [Hm.out]]
  have H1 := Lib.hid hs
  have B1 := Lib.hid (B0.out.trans hb)
  have K1 := Lib.hid (K0.out.trans hk)
  clear hs hb hk C0
  have C1 := Lib.hid (bunless_any B (acc ++ [⟨3, x, y⟩]) y x w1 H1.out (by rw [show (acc ++ [⟨3, x, y⟩] : List Nd).length = m + 1 by simp [Hm.out]]; omega))
  go_wp2_with fail
  refine (C1.out).mono ?_
  rintro e w2 ⟨rfl, hs, hb, hk⟩
  try rw [show ((acc ++ [⟨3, x, y⟩] : List Nd).length : Int) = (m : Int) + 1 by simp [Hm.out]]
  have H2 := Lib.hid hs
  have B2 := Lib.hid (B1.out.trans hb)
  have K2 := Lib.hid (K1.out.trans hk)
  clear hs hb hk C1
  have C2 := Lib.hid (bor_any B ((acc ++ [⟨3, x, y⟩]) ++ [⟨3, y, x⟩]) m (m + 1) w2 H2.out (by rw [show ((acc ++ [⟨3, x, y⟩]) ++ [⟨3, y, x⟩] : List Nd).length = m + 2 by simp [Hm.out]]; omega))
  go_wp2_with fail
  refine (C2.out).mono ?_
  rintro e w3 ⟨rfl, hs, hb, hk⟩
  try rw [show (((acc ++ [⟨3, x, y⟩]) ++ [⟨3, y, x⟩] : List Nd).length : Int) = (m : Int) + 2 by simp [Hm.out]]
  have H3 := Lib.hid hs
  have B3 := Lib.hid (B2.out.trans hb)
  have K3 := Lib.hid (K2.out.trans hk)
  clear hs hb hk C2
  go_wp2
  go_ret
  refine ⟨?_, by simpa using H3.out, B3.out, K3.out⟩
  first | rfl | (congr 2; simp [Hm.out]; try omega)
set_option maxRecDepth 100000 in
set_option maxHeartbeats 4000000 in
theorem band_any (B : Nat) (acc : List Nd) (x y : Int) (w : World) (h : BS w B 72 acc) (hl : acc.length ≤ 980) :
    Calls Try.prog 43 #[.pointer (some ⟨B, 0, none⟩), .int .i16 x, .int .i16 y] w (BP B 72 (acc ++ [⟨3, x, y⟩, ⟨3, x, acc.length⟩]) ((acc.length : Int) + 1) w) := by
  obtain ⟨m, hm⟩ : ∃ m, acc.length = m := ⟨_, rfl⟩
  rw [hm] at hl ⊢
  have Hm := Lib.hid hm
  have H0 := Lib.hid h
  have B0 := Lib.hid (show Below B w w from Below.refl _ _)
  have K0 := Lib.hid (show KN w w B from KN.of_below (Below.refl _ _))
  clear hm h
  go_enter Try.func43, Try.ntmps43
  have C0 := Lib.hid (bunless_any B (acc) x y w H0.out (by rw [Hm.out]; omega))
  go_wp2_with fail
  refine (C0.out).mono ?_
  rintro e w1 ⟨rfl, hs, hb, hk⟩
  try rw [show ((acc : List Nd).length : Int) = (m : Int) by rw [Hm.out]]
  have H1 := Lib.hid hs
  have B1 := Lib.hid (B0.out.trans hb)
  have K1 := Lib.hid (K0.out.trans hk)
  clear hs hb hk C0
  have C1 := Lib.hid (bunless_any B (acc ++ [⟨3, x, y⟩]) x m w1 H1.out (by rw [show (acc ++ [⟨3, x, y⟩] : List Nd).length = m + 1 by simp [Hm.out]]; omega))
  go_wp2_with fail
  refine (C1.out).mono ?_
  rintro e w2 ⟨rfl, hs, hb, hk⟩
  try rw [show ((acc ++ [⟨3, x, y⟩] : List Nd).length : Int) = (m : Int) + 1 by simp [Hm.out]]
  have H2 := Lib.hid hs
  have B2 := Lib.hid (B1.out.trans hb)
  have K2 := Lib.hid (K1.out.trans hk)
  clear hs hb hk C1
  go_wp2
  go_ret
  refine ⟨?_, by simpa using H2.out, B2.out, K2.out⟩
  first | rfl | (congr 2; simp [Hm.out]; try omega)
set_option maxRecDepth 100000 in
set_option maxHeartbeats 4000000 in
theorem bnot_any (B : Nat) (acc : List Nd) (x : Int) (w : World) (h : BS w B 72 acc) (hl : acc.length ≤ 980) :
    Calls Try.prog 69 #[.pointer (some ⟨B, 0, none⟩), .int .i16 x] w (BP B 72 (acc ++ [⟨1, 0, 0⟩, ⟨3, acc.length, x⟩]) ((acc.length : Int) + 1) w) := by
  obtain ⟨m, hm⟩ : ∃ m, acc.length = m := ⟨_, rfl⟩
  rw [hm] at hl ⊢
  have Hm := Lib.hid hm
  have H0 := Lib.hid h
  have B0 := Lib.hid (show Below B w w from Below.refl _ _)
  have K0 := Lib.hid (show KN w w B from KN.of_below (Below.refl _ _))
  clear hm h
  go_enter Try.func69, Try.ntmps69
  have C0 := Lib.hid (bone_any B (acc) w H0.out (by rw [Hm.out]; omega))
  go_wp2_with fail
  refine (C0.out).mono ?_
  rintro e w1 ⟨rfl, hs, hb, hk⟩
  try rw [show ((acc : List Nd).length : Int) = (m : Int) by rw [Hm.out]]
  have H1 := Lib.hid hs
  have B1 := Lib.hid (B0.out.trans hb)
  have K1 := Lib.hid (K0.out.trans hk)
  clear hs hb hk C0
  have C1 := Lib.hid (bunless_any B (acc ++ [⟨1, 0, 0⟩]) m x w1 H1.out (by rw [show (acc ++ [⟨1, 0, 0⟩] : List Nd).length = m + 1 by simp [Hm.out]]; omega))
  go_wp2_with fail
  refine (C1.out).mono ?_
  rintro e w2 ⟨rfl, hs, hb, hk⟩
  try rw [show ((acc ++ [⟨1, 0, 0⟩] : List Nd).length : Int) = (m : Int) + 1 by simp [Hm.out]]
  have H2 := Lib.hid hs
  have B2 := Lib.hid (B1.out.trans hb)
  have K2 := Lib.hid (K1.out.trans hk)
  clear hs hb hk C1
  go_wp2
  go_ret
  refine ⟨?_, by simpa using H2.out, B2.out, K2.out⟩
  first | rfl | (congr 2; simp [Hm.out]; try omega)
set_option maxRecDepth 100000 in
set_option maxHeartbeats 4000000 in
theorem bnever_any (B : Nat) (acc : List Nd) (w : World) (h : BS w B 72 acc) (hl : acc.length ≤ 980) :
    Calls Try.prog 67 #[.pointer (some ⟨B, 0, none⟩)] w (BP B 72 (acc ++ [⟨1, 0, 0⟩, ⟨3, acc.length, acc.length⟩]) ((acc.length : Int) + 1) w) := by
  obtain ⟨m, hm⟩ : ∃ m, acc.length = m := ⟨_, rfl⟩
  rw [hm] at hl ⊢
  have Hm := Lib.hid hm
  have H0 := Lib.hid h
  have B0 := Lib.hid (show Below B w w from Below.refl _ _)
  have K0 := Lib.hid (show KN w w B from KN.of_below (Below.refl _ _))
  clear hm h
  go_enter Try.func67, Try.ntmps67
  have C0 := Lib.hid (bone_any B (acc) w H0.out (by rw [Hm.out]; omega))
  go_wp2_with fail
  refine (C0.out).mono ?_
  rintro e w1 ⟨rfl, hs, hb, hk⟩
  try rw [show ((acc : List Nd).length : Int) = (m : Int) by rw [Hm.out]]
  have H1 := Lib.hid hs
  have B1 := Lib.hid (B0.out.trans hb)
  have K1 := Lib.hid (K0.out.trans hk)
  clear hs hb hk C0
  have C1 := Lib.hid (bunless_any B (acc ++ [⟨1, 0, 0⟩]) m m w1 H1.out (by rw [show (acc ++ [⟨1, 0, 0⟩] : List Nd).length = m + 1 by simp [Hm.out]]; omega))
  go_wp2_with fail
  refine (C1.out).mono ?_
  rintro e w2 ⟨rfl, hs, hb, hk⟩
  try rw [show ((acc ++ [⟨1, 0, 0⟩] : List Nd).length : Int) = (m : Int) + 1 by simp [Hm.out]]
  have H2 := Lib.hid hs
  have B2 := Lib.hid (B1.out.trans hb)
  have K2 := Lib.hid (K1.out.trans hk)
  clear hs hb hk C1
  go_wp2
  go_ret
  refine ⟨?_, by simpa using H2.out, B2.out, K2.out⟩
  first | rfl | (congr 2; simp [Hm.out]; try omega)
set_option maxRecDepth 100000 in
set_option maxHeartbeats 4000000 in
theorem mxor_any (B : Nat) (acc : List Nd) (x y : Int) (w : World) (h : BS w B 66 acc) (hl : acc.length ≤ 980) :
    Calls Try.prog 37 #[.pointer (some ⟨B, 0, none⟩), .int .i16 x, .int .i16 y] w (BP B 66 (acc ++ [⟨3, x, y⟩, ⟨3, y, x⟩, ⟨2, acc.length, acc.length + 1⟩]) ((acc.length : Int) + 2) w) := by
  obtain ⟨m, hm⟩ : ∃ m, acc.length = m := ⟨_, rfl⟩
  rw [hm] at hl ⊢
  have Hm := Lib.hid hm
  have H0 := Lib.hid h
  have B0 := Lib.hid (show Below B w w from Below.refl _ _)
  have K0 := Lib.hid (show KN w w B from KN.of_below (Below.refl _ _))
  clear hm h
  go_enter Try.func37, Try.ntmps37
  have C0 := Lib.hid (add_any B (acc) 3 x y w H0.out (by rw [Hm.out]; omega))
  go_wp2_with fail
  refine (C0.out).mono ?_
  rintro e w1 ⟨rfl, hs, hb, hk⟩
  try rw [show ((acc : List Nd).length : Int) = (m : Int) by rw [Hm.out]]
  have H1 := Lib.hid hs
  have B1 := Lib.hid (B0.out.trans hb)
  have K1 := Lib.hid (K0.out.trans hk)
  clear hs hb hk C0
  have C1 := Lib.hid (add_any B (acc ++ [⟨3, x, y⟩]) 3 y x w1 H1.out (by rw [show (acc ++ [⟨3, x, y⟩] : List Nd).length = m + 1 by simp [Hm.out]]; omega))
  go_wp2_with fail
  refine (C1.out).mono ?_
  rintro e w2 ⟨rfl, hs, hb, hk⟩
  try rw [show ((acc ++ [⟨3, x, y⟩] : List Nd).length : Int) = (m : Int) + 1 by simp [Hm.out]]
  have H2 := Lib.hid hs
  have B2 := Lib.hid (B1.out.trans hb)
  have K2 := Lib.hid (K1.out.trans hk)
  clear hs hb hk C1
  have C2 := Lib.hid (add_any B ((acc ++ [⟨3, x, y⟩]) ++ [⟨3, y, x⟩]) 2 m (m + 1) w2 H2.out (by rw [show ((acc ++ [⟨3, x, y⟩]) ++ [⟨3, y, x⟩] : List Nd).length = m + 2 by simp [Hm.out]]; omega))
  go_wp2_with fail
  refine (C2.out).mono ?_
  rintro e w3 ⟨rfl, hs, hb, hk⟩
  try rw [show (((acc ++ [⟨3, x, y⟩]) ++ [⟨3, y, x⟩] : List Nd).length : Int) = (m : Int) + 2 by simp [Hm.out]]
  have H3 := Lib.hid hs
  have B3 := Lib.hid (B2.out.trans hb)
  have K3 := Lib.hid (K2.out.trans hk)
  clear hs hb hk C2
  go_wp2
  go_ret
  refine ⟨?_, by simpa using H3.out, B3.out, K3.out⟩
  first | rfl | (congr 2; simp [Hm.out]; try omega)
set_option maxRecDepth 100000 in
set_option maxHeartbeats 4000000 in
theorem mand_any (B : Nat) (acc : List Nd) (x y : Int) (w : World) (h : BS w B 66 acc) (hl : acc.length ≤ 980) :
    Calls Try.prog 38 #[.pointer (some ⟨B, 0, none⟩), .int .i16 x, .int .i16 y] w (BP B 66 (acc ++ [⟨3, x, y⟩, ⟨3, x, acc.length⟩]) ((acc.length : Int) + 1) w) := by
  obtain ⟨m, hm⟩ : ∃ m, acc.length = m := ⟨_, rfl⟩
  rw [hm] at hl ⊢
  have Hm := Lib.hid hm
  have H0 := Lib.hid h
  have B0 := Lib.hid (show Below B w w from Below.refl _ _)
  have K0 := Lib.hid (show KN w w B from KN.of_below (Below.refl _ _))
  clear hm h
  go_enter Try.func38, Try.ntmps38
  have C0 := Lib.hid (add_any B (acc) 3 x y w H0.out (by rw [Hm.out]; omega))
  go_wp2_with fail
  refine (C0.out).mono ?_
  rintro e w1 ⟨rfl, hs, hb, hk⟩
  try rw [show ((acc : List Nd).length : Int) = (m : Int) by rw [Hm.out]]
  have H1 := Lib.hid hs
  have B1 := Lib.hid (B0.out.trans hb)
  have K1 := Lib.hid (K0.out.trans hk)
  clear hs hb hk C0
  have C1 := Lib.hid (add_any B (acc ++ [⟨3, x, y⟩]) 3 x m w1 H1.out (by rw [show (acc ++ [⟨3, x, y⟩] : List Nd).length = m + 1 by simp [Hm.out]]; omega))
  go_wp2_with fail
  refine (C1.out).mono ?_
  rintro e w2 ⟨rfl, hs, hb, hk⟩
  try rw [show ((acc ++ [⟨3, x, y⟩] : List Nd).length : Int) = (m : Int) + 1 by simp [Hm.out]]
  have H2 := Lib.hid hs
  have B2 := Lib.hid (B1.out.trans hb)
  have K2 := Lib.hid (K1.out.trans hk)
  clear hs hb hk C1
  go_wp2
  go_ret
  refine ⟨?_, by simpa using H2.out, B2.out, K2.out⟩
  first | rfl | (congr 2; simp [Hm.out]; try omega)
set_option maxRecDepth 100000 in
set_option maxHeartbeats 4000000 in
theorem mzero_any (B : Nat) (acc : List Nd) (w : World) (h : BS w B 66 acc) (hl : acc.length ≤ 980) :
    Calls Try.prog 66 #[.pointer (some ⟨B, 0, none⟩)] w (BP B 66 (acc ++ [⟨1, 0, 0⟩, ⟨3, acc.length, acc.length⟩]) ((acc.length : Int) + 1) w) := by
  obtain ⟨m, hm⟩ : ∃ m, acc.length = m := ⟨_, rfl⟩
  rw [hm] at hl ⊢
  have Hm := Lib.hid hm
  have H0 := Lib.hid h
  have B0 := Lib.hid (show Below B w w from Below.refl _ _)
  have K0 := Lib.hid (show KN w w B from KN.of_below (Below.refl _ _))
  clear hm h
  go_enter Try.func66, Try.ntmps66
  have C0 := Lib.hid (add_any B (acc) 1 0 0 w H0.out (by rw [Hm.out]; omega))
  go_wp2_with fail
  refine (C0.out).mono ?_
  rintro e w1 ⟨rfl, hs, hb, hk⟩
  try rw [show ((acc : List Nd).length : Int) = (m : Int) by rw [Hm.out]]
  have H1 := Lib.hid hs
  have B1 := Lib.hid (B0.out.trans hb)
  have K1 := Lib.hid (K0.out.trans hk)
  clear hs hb hk C0
  have C1 := Lib.hid (add_any B (acc ++ [⟨1, 0, 0⟩]) 3 m m w1 H1.out (by rw [show (acc ++ [⟨1, 0, 0⟩] : List Nd).length = m + 1 by simp [Hm.out]]; omega))
  go_wp2_with fail
  refine (C1.out).mono ?_
  rintro e w2 ⟨rfl, hs, hb, hk⟩
  try rw [show ((acc ++ [⟨1, 0, 0⟩] : List Nd).length : Int) = (m : Int) + 1 by simp [Hm.out]]
  have H2 := Lib.hid hs
  have B2 := Lib.hid (B1.out.trans hb)
  have K2 := Lib.hid (K1.out.trans hk)
  clear hs hb hk C1
  go_wp2
  go_ret
  refine ⟨?_, by simpa using H2.out, B2.out, K2.out⟩
  first | rfl | (congr 2; simp [Hm.out]; try omega)
end Go.Proofs.Ytdnjamlibnmpfaa
