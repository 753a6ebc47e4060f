/- Nodes with the same table made one: the model. -/
import Derived.Test.YtdnjamlibnmpfaaMg0
import Derived.Test.YtdnjamlibnmpfaaTr
import Derived.Test.YtdnjamlibnmpfaaG21
import Derived.Test.YtdnjamlibnmpfaaNo1
import Derived.Test.YtdnjamlibnmpfaaIn
import Derived.Deep.RegionLaw
namespace Go.Proofs.Ytdnjamlibnmpfaa
open Go.ChangeShapes Go.WideShapes Go.ChangeAt Go.RowKit Go.Joins Go.Deep
set_option linter.unusedVariables false
set_option linter.unusedSimpArgs false
theorem rows_apart {w : World} {b1 b2 s1 s2 n1 n2 : Nat} {e1 e2 : TypeId} {v1 v2 : Value} {x1 x2 : List Value} (h1 : w.ownsRow b1 e1 s1 v1 n1 x1) (h2 : w.ownsRow b2 e2 s2 v2 n2 x2) (he : e1 ≠ e2) : v1.ownBlock = none ∨ v1.ownBlock ≠ v2.ownBlock := by
  rcases h1.2 with ⟨rfl, _⟩ | ⟨g, cap, cur, rfl, hb, hg, _⟩
  · exact .inl rfl
  · refine .inr fun e => ?_
    rcases h2.2 with ⟨rfl, _⟩ | ⟨g2, cap2, cur2, rfl, hb2, hg2, _⟩
    · simp [Value.ownBlock] at e
    · obtain rfl : g = g2 := by simpa [Value.ownBlock] using e
      rw [hg] at hg2
      injection hg2 with h; injection h with _ h _
      exact he h
theorem row_block {w : World} {b s n B : Nat} {e t : TypeId} {v : Value} {xs : List Value} {cs : Array Value} (h : w.ownsRow b e s v n xs) (hB : w.heap[B]? = some (.cells cs t (0, 0))) (he : t ≠ e) : v.ownBlock ≠ some B := by
  rcases h.2 with ⟨rfl, _⟩ | ⟨g, cap, cur, rfl, hb, hg, _⟩
  · simp [Value.ownBlock]
  · intro e'
    obtain rfl : g = B := by simpa [Value.ownBlock] using e'
    rw [hg] at hB
    injection hB with h; injection h with _ h _
    exact he h.symm
/-- the three rows of a merged network -/
structure MgR (lo : Nat) (w : World) (R : MgS) (L : List Int) (v u pl : Value) : Prop where
  nd : w.ownsRow lo 48 3 v R.M.length (flatNd R.M)
  sh : w.ownsRow lo 46 1 u L.length (flatSh L)
  pl : w.ownsRow lo 2 1 pl R.P.length (flatIn R.P)
/-- the model's rows while it merges: places, tables kept, nodes kept; and its result's box -/
structure MW (w : World) (B1 O n : Nat) (pv kv nv : Value) (P K : List Int) (M : List Nd) : Prop where
  p : w.ownsRow B1 2 1 pv P.length (flatIn P)
  k : w.ownsRow B1 39 1 kv K.length (flatUs K)
  m : w.ownsRow (O + 1) 48 3 nv M.length (flatNd M)
  o : w.heap[O]? = some (.cells #[.int .i8 (n : Int), nv, .slice none 0 0] 30 (0, 0))
  sz : O + 1 ≤ w.heap.size
theorem MW.below {w w' : World} {B1 O n : Nat} {pv kv nv : Value} {P K : List Int} {M : List Nd} (h : MW w B1 O n pv kv nv P K M) (b : Below w.heap.size w w') : MW w' B1 O n pv kv nv P K M :=
  ⟨owns_below h.p b, owns_below h.k b, owns_below h.m b, blk_below h.o b, Nat.le_trans h.sz b.size⟩
theorem MW.putP {w w' : World} {B1 O n : Nat} {pv kv nv v' : Value} {P P' K : List Int} {M : List Nd} (h : MW w B1 O n pv kv nv P K M) (g : w.grownBy w' pv.ownBlock) (ho : w'.ownsRow B1 2 1 v' P'.length (flatIn P')) : MW w' B1 O n v' kv nv P' K M :=
  ⟨ho, h.k.kept g (rows_apart h.k h.p (by decide)), h.m.kept g (rows_apart h.m h.p (by decide)), (g.block O (Nat.lt_of_succ_le h.sz) (fun e => row_block h.p h.o (by decide) e.symm)).trans h.o, Nat.le_trans h.sz g.size⟩
theorem MW.putK {w w' : World} {B1 O n : Nat} {pv kv nv v' : Value} {P K K' : List Int} {M : List Nd} (h : MW w B1 O n pv kv nv P K M) (g : w.grownBy w' kv.ownBlock) (ho : w'.ownsRow B1 39 1 v' K'.length (flatUs K')) : MW w' B1 O n pv v' nv P K' M :=
  ⟨h.p.kept g (rows_apart h.p h.k (by decide)), ho, h.m.kept g (rows_apart h.m h.k (by decide)), (g.block O (Nat.lt_of_succ_le h.sz) (fun e => row_block h.k h.o (by decide) e.symm)).trans h.o, Nat.le_trans h.sz g.size⟩
theorem MW.growM {w w' : World} {B1 O n : Nat} {pv kv nv : Value} {P K : List Int} {M : List Nd} (h : MW w B1 O n pv kv nv P K M) (g : w.grownBy w' nv.ownBlock) : w'.heap[O]? = some (.cells #[.int .i8 (n : Int), nv, .slice none 0 0] 30 (0, 0)) :=
  (g.block O (Nat.lt_of_succ_le h.sz) (fun e => row_block h.m h.o (by decide) e.symm)).trans h.o
theorem MW.putM {w w' : World} {B1 O n : Nat} {pv kv nv v' : Value} {P K : List Int} {M M' : List Nd} (h : MW w B1 O n pv kv nv P K M) (g : w.grownBy w' nv.ownBlock) (ho : w'.ownsRow (O + 1) 48 3 v' M'.length (flatNd M')) : MW (w'.setCell ⟨O, 1, none⟩ v') B1 O n pv kv v' P K M' := by
  have hO := h.growM g
  exact ⟨owns_set_far (h.p.kept g (rows_apart h.p h.m (by decide))) hO (by decide) 1 v', owns_set_far (h.k.kept g (rows_apart h.k h.m (by decide))) hO (by decide) 1 v', owns_set_far ho hO (by decide) 1 v', blk_set_same' (i := 1) (v := v') hO, by simpa [World.setCell] using Nat.le_trans h.sz g.size⟩
/-- the model's rows while it places the outputs -/
structure MO (w : World) (B1 O n : Nat) (pv nv u : Value) (P : List Int) (M : List Nd) (A : List Int) : Prop where
  p : w.ownsRow B1 2 1 pv P.length (flatIn P)
  m : w.ownsRow (O + 1) 48 3 nv M.length (flatNd M)
  s : w.ownsRow (O + 1) 46 1 u A.length (flatSh A)
  o : w.heap[O]? = some (.cells #[.int .i8 (n : Int), nv, u] 30 (0, 0))
  sz : O + 1 ≤ w.heap.size
theorem MW.out {w : World} {B1 O n : Nat} {pv kv nv : Value} {P K : List Int} {M : List Nd} (h : MW w B1 O n pv kv nv P K M) : MO w B1 O n pv nv (.slice none 0 0) P M [] := ⟨h.p, h.m, nilT_owns, h.o, h.sz⟩
theorem MO.below {w w' : World} {B1 O n : Nat} {pv nv u : Value} {P A : List Int} {M : List Nd} (h : MO w B1 O n pv nv u P M A) (b : Below w.heap.size w w') : MO w' B1 O n pv nv u P M A :=
  ⟨owns_below h.p b, owns_below h.m b, owns_below h.s b, blk_below h.o b, Nat.le_trans h.sz b.size⟩
theorem MO.growS {w w' : World} {B1 O n : Nat} {pv nv u : Value} {P A : List Int} {M : List Nd} (h : MO w B1 O n pv nv u P M A) (g : w.grownBy w' u.ownBlock) : w'.heap[O]? = some (.cells #[.int .i8 (n : Int), nv, u] 30 (0, 0)) :=
  (g.block O (Nat.lt_of_succ_le h.sz) (fun e => row_block h.s h.o (by decide) e.symm)).trans h.o
theorem MO.putS {w w' : World} {B1 O n : Nat} {pv nv u u' : Value} {P A A' : List Int} {M : List Nd} (h : MO w B1 O n pv nv u P M A) (g : w.grownBy w' u.ownBlock) (ho : w'.ownsRow (O + 1) 46 1 u' A'.length (flatSh A')) : MO (w'.setCell ⟨O, 2, none⟩ u') B1 O n pv nv u' P M A' := by
  have hO := h.growS g
  exact ⟨owns_set_far (h.p.kept g (rows_apart h.p h.s (by decide))) hO (by decide) 2 u', owns_set_far (h.m.kept g (rows_apart h.m h.s (by decide))) hO (by decide) 2 u', owns_set_far ho hO (by decide) 2 u', blk_set_same' (i := 2) (v := u') hO, by simpa [World.setCell] using Nat.le_trans h.sz g.size⟩
theorem owns_rowset {w : World} {b s n g : Nat} {e : TypeId} {v : Value} {xs : List Value} {cs : Array Value} (h : w.ownsRow b e s v n xs) (hg : g < b) : (w.setRow g cs).ownsRow b e s v n xs :=
  h.kept (row := some g) ⟨rfl, rfl, rfl, by simp, fun k hk hne => setRow_other _ _ _ _ (fun e => hne (by rw [e]))⟩ (.inr (fun e => by have := (h.lt _ e).1; omega))
theorem slIn_someM {w : World} {T : List Int} {va : Option Addr} {vc N : Nat} (h : SlIn w T (.slice va N vc)) (h0 : 0 < T.length) : ∃ g o, va = some ⟨g, o, none⟩ ∧ InsAt w g o T ∧ g < w.heap.size ∧ T.length ≤ vc ∧ N = T.length := by
  generalize hv : Value.slice va N vc = v at h
  cases h with
  | empty _ _ h => rw [h] at h0; simp at h0
  | mk g o c h1 h2 h3 => cases hv; exact ⟨_, _, rfl, h1, h2, h3, rfl⟩
theorem ins_of_row {w : World} {base pc gp op n m : Nat} {e : TypeId} {P : List Int} (h : w.ownsRow base e 1 (.slice (some ⟨gp, op, none⟩) n pc) m (flatIn P)) (h0 : 0 < P.length) : InsAt w gp op P ∧ gp < w.heap.size := by
  have hs := (SlWIn.of_owns h).sl
  obtain ⟨g, o, hv, hc, hg, -, -⟩ := slIn_someM hs h0
  injection hv with hv
  injection hv with h1 h2 _
  subst h1 h2
  exact ⟨hc, hg⟩
theorem info_u64m : (Try.prog.info? 39).map (fun i => (i.zero, i.size, i.bytes)) = some (some (.int .u64 0), 1, 8) := by kernel_rfl
theorem info_i64m : (Try.prog.info? 2).map (fun i => (i.zero, i.size, i.bytes)) = some (some (.int .i64 0), 1, 8) := by kernel_rfl
theorem idx_le (l : List Int) (t : Int) : l.idxOf t ≤ l.length := List.idxOf_le_length
theorem idx_not {l : List Int} {t : Int} {a : Nat} (h : a < l.length) (hle : a ≤ l.idxOf t) (hne : l[a] ≠ t) : a + 1 ≤ l.idxOf t := by
  rcases Nat.lt_or_eq_of_le hle with h1 | h1
  · exact h1
  · exfalso
    apply hne
    subst h1
    exact List.getElem_idxOf h
theorem idx_is {t : Int} : ∀ {l : List Int} {a : Nat} (h : a < l.length), a ≤ l.idxOf t → l[a] = t → a = l.idxOf t
  | x :: l, 0, h, _, he => by
    simp only [List.getElem_cons_zero] at he
    simp [List.idxOf_cons, he]
  | x :: l, a + 1, h, hle, he => by
    simp only [List.getElem_cons_succ] at he
    by_cases hx : x = t
    · simp [List.idxOf_cons, hx] at hle
    · have hb : (x == t) = false := by simpa using hx
      have e : (x :: l).idxOf t = l.idxOf t + 1 := by rw [List.idxOf_cons, hb]; rfl
      rw [e] at hle ⊢
      rw [← idx_is (l := l) (by simpa using h) (by omega) he]
set_option maxRecDepth 100000 in
set_option maxHeartbeats 32000000 in
theorem l04Merge_anyC (n bb b k cb ck : Nat) (l : List Nd) (p : List Int) (w : World) (h0 : NwAt w bb n (.slice (some ⟨b, 0, none⟩) l.length cb) (.slice (some ⟨k, 0, none⟩) p.length ck)) (h : NK w b k l p) (hok : netOk n l p = true) (R : MgS) (hR : mgOf n l = R) :
    Calls Try.prog 60 #[.pointer (some ⟨bb, 0, none⟩)] w fun e w' => ∃ v u pl, e = .returned (.tuple #[.agg #[.int .i8 n, v, u], pl]) ∧ MgR w.heap.size w' R (pickP (atP R.P) p) v u pl ∧ Below w.heap.size w w' := by
  have hnp := netOk_parts hok
  have hn6 : 1 ≤ n ∧ n ≤ 6 := by omega
  have hl80 : 1 ≤ l.length ∧ l.length ≤ 80 := by omega
  have hp8 : 1 ≤ p.length ∧ p.length ≤ 8 := by omega
  have HRO := Lib.hid (outsOkN_all hnp.2.2.2.2)
  have HN := Lib.hid (fun i (hi : i < l.length) => netOk_node hok i hi)
  have HFI := Lib.hid (merge_inv hok)
  have hTl : (tabsL n l []).length = l.length := by rw [tabsL_length]; simp
  obtain ⟨T, hT⟩ : ∃ T, tabsL n l [] = T := ⟨_, rfl⟩
  have HTB := Lib.hid (fun W (hW : Below w.heap.size w W) => l04Tables_anyC n bb b k cb ck l p W (h0.below hW h0.lt) (h.below hW) hok)
  rw [hT] at HTB hTl HFI
  rw [hR] at HFI
  have HA0 : Hid (mgA n (l.drop 0) [] mg0 = R) := Lib.hid hR
  have HT0 : Hid (tabsL n (l.drop 0) [] = T) := Lib.hid hT
  have HI0 : Hid (MgInv n [] mg0) := Lib.hid (MgInv.start n)
  obtain ⟨i0, hi0, hi1, hi2, hi3⟩ := info_parts info_i64m
  have Hi := Lib.hid hi0
  have Hi1 := Lib.hid hi1
  have Hi2 := Lib.hid hi2
  have Hi3 := Lib.hid hi3
  obtain ⟨u0, hu0, hu1, hu2, hu3⟩ := info_parts info_u64m
  have Hu := Lib.hid hu0
  have Hu1 := Lib.hid hu1
  have Hu2 := Lib.hid hu2
  have Hu3 := Lib.hid hu3
  obtain ⟨j0, hj0, hj1, hj2, hj3⟩ := info_parts info_i16n
  have Hj := Lib.hid hj0
  have Hj1 := Lib.hid hj1
  have Hj2 := Lib.hid hj2
  have Hj3 := Lib.hid hj3
  obtain ⟨m0, hm0, hm1, hm2, hm3⟩ := info_parts info_Nd
  have Hm := Lib.hid hm0
  have Hm1 := Lib.hid hm1
  have Hm2 := Lib.hid hm2
  have Hm3 := Lib.hid hm3
  obtain ⟨W0, hW⟩ : ∃ W0, w.alloc (.cells #[.int .i8 0, .slice none 0 0, .slice none 0 0] 30) = W0 := ⟨_, rfl⟩
  have k0 : Below w.heap.size w W0 := by rw [← hW]; exact kAlloc (Below.refl _ _) _
  have bR : W0.heap[w.heap.size]? = some (.cells #[.int .i8 0, .slice none 0 0, .slice none 0 0] 30 (0, 0)) := by rw [← hW]; exact nNew _ _
  have lw := blk_lt bR
  have lbb := h0.lt
  obtain ⟨N, hN⟩ : ∃ N, l.length = N := ⟨_, rfl⟩
  obtain ⟨q, hq⟩ : ∃ q, p.length = q := ⟨_, rfl⟩
  have Hn := Lib.hid hN
  have Hq := Lib.hid hq
  have HX := Lib.hid (fun W (hW : Below W0.heap.size W0 W) => h0.below (kTrans k0 hW) lbb)
  have HK := Lib.hid (fun W (hW : Below W0.heap.size W0 W) => h.below (kTrans k0 hW))
  have HBR := Lib.hid (fun W (hW : Below W0.heap.size W0 W) => blk_below bR hW)
  have HK0 := Lib.hid k0
  have HW := Lib.hid hW
  rw [hN] at hl80 HX HRO hTl
  rw [hq] at hp8 HX
  have HTl := Lib.hid hTl
  clear h h0 hok hN hq hR hT hW hnp hi0 hi1 hi2 hi3 hu0 hu1 hu2 hu3 hj0 hj1 hj2 hj3 hm0 hm1 hm2 hm3 bR k0 hTl
  go_enter Try.func60, Try.ntmps60
  go_upto_region 1 with fail
  try rw [HW.out]
  go_wp2_with fail
  refine (HTB.out _ HK0.out).mono ?_
  rintro e w1 ⟨v, rfl, hv, hb1⟩
  obtain ⟨va, vc, rfl⟩ := hv.form
  obtain ⟨gT, oT, rfl, hcT, hgT, hleT, -⟩ := slUs_someN hv.sl (by have := HTl.out; omega)
  have HCT := Lib.hid hcT
  have HB1 := Lib.hid hb1
  have lz1 := hb1.size
  have HTl2 := HTl.out
  rw [HTl2] at hleT ⊢
  obtain ⟨x0, x1, x2⟩ := HX.out w1 hb1
  have lbb1 := (HX.out w1 hb1).lt
  clear hv hcT hb1 HTB HW HTl2
  obtain ⟨B1, hB1⟩ : ∃ B1, w1.heap.size = B1 := ⟨_, rfl⟩
  have HBe := Lib.hid (Nat.le_of_eq hB1)
  have HBe2 := Lib.hid (Nat.le_of_eq hB1.symm)
  obtain ⟨W3, hW3⟩ : ∃ W3, ((w1.alloc (.cells #[] 2)).alloc (.cells #[] 39)).alloc (.cells #[.int .i8 (n : Int), .slice none 0 0, .slice none 0 0] 30) = W3 := ⟨_, rfl⟩
  have k3 : Below w1.heap.size w1 W3 := by rw [← hW3]; exact kAlloc (kAlloc (kAlloc (Below.refl _ _) _) _) _
  have bP : W3.heap[w1.heap.size]? = some (.cells #[] 2 (0, 0)) := by rw [← hW3]; exact (Below.heap_alloc _ _ _ (by simp; omega)).trans ((Below.heap_alloc _ _ _ (by simp)).trans (heap_alloc_new _ _))
  have bK : W3.heap[w1.heap.size + 1]? = some (.cells #[] 39 (0, 0)) := by rw [← hW3]; exact (Below.heap_alloc _ _ _ (by simp)).trans (heap_two _ _ _)
  have bO : W3.heap[w1.heap.size + 1 + 1]? = some (.cells #[.int .i8 (n : Int), .slice none 0 0, .slice none 0 0] 30 (0, 0)) := by
    rw [← hW3]
    have h := heap_two (w1.alloc (.cells #[] 2)) (.cells #[] 39) (.cells #[.int .i8 (n : Int), .slice none 0 0, .slice none 0 0] 30)
    simpa only [World.size_alloc] using h
  have hW3s := Lib.hid hW3
  rw [hB1] at bP bK bO
  have HP0 : Hid (W3.ownsRow B1 2 1 (.slice (some ⟨B1, 0, none⟩) 0 0) (mg0.P).length (flatIn mg0.P)) := Lib.hid (owns_new (Nat.le_refl _) bP)
  have HKr0 : Hid (W3.ownsRow B1 39 1 (.slice (some ⟨B1 + 1, 0, none⟩) 0 0) (mg0.K).length (flatUs mg0.K)) := Lib.hid (owns_new (Nat.le_succ _) bK)
  have HO0 := Lib.hid bO
  have HM0 : Hid (W3.ownsRow (B1 + 1 + 1 + 1) 48 3 (.slice none 0 0) (mg0.M).length (flatNd mg0.M)) := Lib.hid nilT_owns
  have HB3 := Lib.hid k3
  have hz3 : B1 + 1 + 1 + 1 ≤ W3.heap.size := blk_lt bO
  have y0 := (HX.out W3 (kTrans HB1.out k3))
  have ly := y0.lt
  have HBq := Lib.hid hB1
  clear bP bK bO k3 hW3 hB1
  go_upto_region 5 with fail
  clear x0 x1 x2 lbb1
  obtain ⟨x0, x1, x2⟩ := y0
  try rw [hW3s.out]
  rw [HBq.out]
  obtain ⟨O, hO⟩ : ∃ O, B1 + 1 + 1 = O := ⟨_, rfl⟩
  have hO2 : B1 < O := by omega
  rw [hO] at HO0 HM0 hz3 ⊢
  have HMW0 : Hid (MW W3 B1 O n (.slice (some ⟨B1, 0, none⟩) 0 0) (.slice (some ⟨B1 + 1, 0, none⟩) 0 0) (.slice none 0 0) mg0.P mg0.K mg0.M) := Lib.hid ⟨HP0.out, HKr0.out, HM0.out, HO0.out, hz3⟩
  clear hW3s HBq hO HP0 HKr0 HO0 HM0 hz3
  go_wp2
  go_loopw [5, 6, 8, 9, 10] (fun pv kv z _ _ wr => ∃ (j : Nat) (A : List Int) (S : MgS) (nv : Value), j ≤ N ∧ z = .int .i64 j ∧ Hid (A.length = j) ∧ Hid (mgA n (l.drop j) A S = R) ∧ Hid (tabsL n (l.drop j) A = T) ∧ Hid (MgInv n A S) ∧ Hid (MW wr B1 O n pv kv nv S.P S.K S.M) ∧ Hid (Below w1.heap.size w1 wr)) (fun _ _ z _ _ _ => N - (intOf z).toNat)
  case atStart => exact ⟨0, [], mg0, _, by omega, rfl, Lib.hid rfl, HA0, HT0, HI0, HMW0, HB3⟩
  case round =>
    clear HA0 HT0 HI0 HMW0 HB3 x0 x1 x2 ly
    obtain ⟨j, A, S, nv, hj, rfl, hA, hf, ht, hI, hMW, hb⟩ := hrel
    obtain ⟨wo, rfl⟩ : ∃ wo : World, wo = wr := ⟨_, rfl⟩
    have hbw := kTrans HB1.out hb.out
    obtain ⟨x0, x1, x2⟩ := id (HX.out wo hbw)
    have lb2 := (HX.out wo hbw).lt
    by_cases hjN : j < N
    · have hlk : j < l.length := by rw [Hn.out]; exact hjN
      obtain ⟨x, hx⟩ : ∃ x, l[j] = x := ⟨_, rfl⟩
      have hno := HN.out j hlk
      rw [hx] at hno
      have hjT : j < T.length := by rw [HTl.out]; exact hjN
      have htj := tabsL_at hlk hx hA.out ht.out
      obtain ⟨t, htd⟩ : ∃ t, tabOf n A x = t := ⟨_, rfl⟩
      rw [htd, getD_at hjT] at htj
      have HCt := Lib.hid (fun W (hW : Below w1.heap.size w1 W) => (show W.cell? ⟨gT, oT + j, none⟩ = some (.int .u64 t) by have h := HCT.out.below hW hgT j hjT; rw [htj] at h; exact h))
      have lgT := Nat.lt_of_lt_of_le hgT hb.out.size
      have hkle := hI.out.le
      have hkl := hI.out.kl
      have hpl := hI.out.pl
      rw [hA.out] at hkle hpl
      have hf2 := hf.out
      rw [mgA_step hlk hx, htd] at hf2
      have ht2 : tabsL n (l.drop (j + 1)) (A ++ [t]) = T := by
        have h := ht.out
        rw [List.drop_eq_getElem_cons hlk, tabsL, hx, htd] at h
        exact h
      have hI2 : MgInv n (A ++ [t]) (mgStep S x t) := by rw [← htd]; exact hI.out.step (by rw [hA.out]; exact hno)
      have HF2 := Lib.hid hf2
      have HT2 := Lib.hid ht2
      have HI2 := Lib.hid hI2
      have HA2 : Hid ((A ++ [t]).length = j + 1) := Lib.hid (by rw [List.length_append, hA.out]; rfl)
      have HND := Lib.hid (fun W (hW : Below w1.heap.size w1 W) => (show NdAt W b (0 + j * 3) x by have h := (HK.out W (kTrans HB1.out hW)).p0 j hlk; rw [hx] at h; exact h))
      have HXX := Lib.hid (fun W (hW : Below w1.heap.size w1 W) => HX.out W (kTrans HB1.out hW))
      have HZB := Lib.hid (fun W (hW : Below w1.heap.size w1 W) => (HK.out W (kTrans HB1.out hW)).z0)
      have Hno := Lib.hid hno
      have HIA := Lib.hid (fun s (hs : s < j) => hI.out.at_ s (by rw [hA.out]; exact hs))
      clear hx hno htj htd hf2 ht2 hI2 hf ht hjT hA hI
      obtain ⟨SK, SM, SP⟩ := S
      simp only at hMW hkle hkl hpl HIA
      obtain ⟨pa, pc, rfl⟩ := owns_slice hMW.out.p
      obtain ⟨ka, kc, rfl⟩ := owns_slice hMW.out.k
      obtain ⟨na, nc, rfl⟩ := owns_slice hMW.out.m
      have hix := idx_le SK t
      obtain ⟨m, hm⟩ : ∃ m, SK.length = m := ⟨_, rfl⟩
      obtain ⟨ix, hixe⟩ : ∃ ix, SK.idxOf t = ix := ⟨_, rfl⟩
      rw [← hkl, hm, hpl] at hMW
      have Hm_ := Lib.hid hm
      have Hix := Lib.hid hixe
      have HPl := Lib.hid hpl
      have HMl : Hid (SM.length = m) := Lib.hid (by rw [← hkl, hm])
      have HIA2 : Hid (∀ s, s < j → ∃ k, k < m ∧ SP.getD s 0 = (k : Int)) := Lib.hid (fun s hs => by obtain ⟨k, h1, h2, _⟩ := HIA.out s hs; rw [hm] at h1; exact ⟨k, h1, h2⟩)
      rw [hm] at hkle hix ⊢
      rw [hixe] at hix
      rw [hpl]
      clear hm hixe hpl hkl HIA
      go_wp2
      go_loopw [9] (fun z wr => ∃ a : Nat, a ≤ ix ∧ z = .int .i64 a ∧ Hid (Below wo.heap.size wo wr)) (fun z _ => m - (intOf z).toNat)
      case atStart => exact ⟨0, Nat.zero_le _, rfl, Lib.hid (Below.refl _ _)⟩
      case round =>
        clear x0 x1 x2 lb2
        obtain ⟨a, ha, rfl, hbi⟩ := hrel
        have HBr := Lib.hid (kTrans hb.out hbi.out)
        have HMr := Lib.hid (hMW.out.below hbi.out)
        have hct := HCt.out wr HBr.out
        have lgr := Nat.lt_of_lt_of_le lgT hbi.out.size
        by_cases ham : a < m
        · have hkm : a < SK.length := by rw [Hm_.out]; exact ham
          obtain ⟨gk, ok, rfl, hck, hgk, hlek, -⟩ := slUs_someN (SlWUs.of_owns HMr.out.k).sl (by omega)
          have ck := hck a hkm
          obtain ⟨y, hy⟩ : ∃ y, SK[a] = y := ⟨_, rfl⟩
          rw [hy] at ck
          have Hy := Lib.hid hy
          clear hck hy
          by_cases hyt : y = t
          · have hai : a = ix := by rw [← Hix.out]; exact idx_is hkm (by rw [Hix.out]; exact ha) (by rw [Hy.out]; exact hyt)
            subst hai
            have hyt2 : (y != t) = false := by simpa using hyt
            have ham2 : ((a : Int) == (m : Int)) = false := by simp; omega
            have HSt : Hid (mgStep ⟨SK, SM, SP⟩ x t = ⟨SK, SM, SP ++ [(a : Int)]⟩) := Lib.hid (by unfold mgStep; rw [if_pos (by simp only; rw [Hix.out, Hm_.out]; exact ham)]; simp only; rw [Hix.out])
            clear hyt
            go_wp2
            go_quiet (fail)
            have kd := kDrewN hbi.out nq
            generalize wr.drewN nq = w5 at kd ⊢
            have HM5 := Lib.hid (hMW.out.below kd)
            have HB5 := Lib.hid (kTrans hb.out kd)
            clear HMr HBr hct lgr ck hgk kd hbi hMW hb
            have HPO : Hid (w5.ownsRow B1 2 1 (.slice pa j pc) j (flatIn SP)) := Lib.hid (by have h := HM5.out.p; rwa [HPl.out] at h)
            go_wp2_with (at_builtin; refine wpList_append_own _ rfl _ _ 92 rfl B1 2 i0 _ 1 8 Try.underlying92 Hi.out Hi1.out Hi2.out Hi3.out rfl (by decide) (.slice pa j pc) j (flatIn SP) rfl (owns_below HPO.out (by repeat (first | with_reducible exact Below.refl _ _ | (with_reducible refine kSet ?_ ?hB _; case hB => (simp; try omega)) | with_reducible refine kAlloc ?_ _ | with_reducible refine Below.drew ?_ | with_reducible refine kDrewN ?_ _ | with_reducible refine kTrans ?_ (by assumption)))) ⟨w5.heap.size, 0, none⟩ 1 1 [.int .i64 (a : Int)] rfl rfl (World.news_of_block (cs := #[.int .i64 (a : Int)]) (heap_alloc_new _ _)) (by simp [Value.oneCell']) ?qc4 ?qc5 ?qc6 ?_)
            case qc4 => unfold maxLen; omega
            case qc5 => omega
            case qc6 => have := HB5.out.size; have := HBe2.out; have := HM5.out.sz; simp; omega
            intro v6 w6 hown6 hgr hnil
            have kA : Below w5.heap.size w5 (w5.alloc (.cells #[.int .i64 (a : Int)] 2)) := kAlloc (Below.refl _ _) _
            have HM6 := Lib.hid ((HM5.out.below kA).putP (P' := SP ++ [(a : Int)]) hgr (by rw [flatIn_end, List.length_append, HPl.out]; exact hown6))
            have HB6 := Lib.hid ((kTrans HB5.out kA).grown hgr (kTrans HB5.out kA).size (fun q hq => Nat.le_trans HBe.out (owns_block HPO.out q hq).1))
            clear hown6 hgr hnil kA HM5 HB5 HPO
            go_wp2
            exact ⟨⟨j + 1, A ++ [t], mgStep ⟨SK, SM, SP⟩ x t, _, by omega, by go_num, HA2, HF2, HT2, HI2, Lib.hid (by rw [HSt.out]; exact HM6.out), HB6⟩, by simp [intOf]; omega⟩
          · have hyt2 : (y != t) = true := by simpa using hyt
            have ha2 : a + 1 ≤ ix := by rw [← Hix.out]; exact idx_not hkm (by rw [Hix.out]; exact ha) (by rw [Hy.out]; exact hyt)
            clear hyt
            go_wp2
            go_quiet (fail)
            go_wp2
            exact ⟨⟨a + 1, ha2, by go_num, Lib.hid (kDrewN hbi.out _)⟩, by simp [intOf]; omega⟩
        · obtain rfl : a = m := by omega
          obtain rfl : ix = a := by omega
          have ham2 : ((ix : Int) == (ix : Int)) = true := by simp
          have ham3 : decide ((ix : Int) < (ix : Int)) = false := by simp
          have ham4 : decide (ix < ix) = false := by simp
          have HSt : Hid (mgStep ⟨SK, SM, SP⟩ x t = ⟨SK ++ [t], SM ++ [relT (atP SP) x], SP ++ [(ix : Int)]⟩) := Lib.hid (by unfold mgStep; rw [if_neg (by simp only; rw [Hix.out, Hm_.out]; exact ham)]; simp only; rw [Hm_.out])
          go_wp2
          go_quiet (fail)
          have kd := kDrewN hbi.out nq
          generalize wr.drewN nq = w5 at kd ⊢
          have HM5 := Lib.hid (hMW.out.below kd)
          have HB5 := Lib.hid (kTrans hb.out kd)
          clear HMr HBr hct lgr kd hbi hMW hb
          obtain ⟨a0, a1, a2⟩ := HND.out w5 HB5.out
          simp only [Nat.zero_add] at a0 a1 a2
          have zb := HZB.out w5 HB5.out
          obtain ⟨x0, x1, x2⟩ := HXX.out w5 HB5.out
          have lb2 := (HXX.out w5 HB5.out).lt
          obtain ⟨w7, hW7⟩ : ∃ w7, w5.alloc (.cells #[.int .i8 x.kind, .int .i16 x.a, .int .i16 x.b] 48) = w7 := ⟨_, rfl⟩
          have k7 : Below w5.heap.size w5 w7 := by rw [← hW7]; exact kAlloc (Below.refl _ _) _
          have bX : w7.heap[w5.heap.size]? = some (.cells #[.int .i8 x.kind, .int .i16 x.a, .int .i16 x.b] 48 (0, 0)) := by rw [← hW7]; exact nNew _ _
          have HW7 := Lib.hid hW7
          clear hW7
          go_upto_region 13 with fail
          try rw [HW7.out]
          obtain ⟨xg, hxg⟩ : ∃ xg, w5.heap.size = xg := ⟨_, rfl⟩
          have Hxg := Lib.hid (Nat.le_of_eq hxg)
          rw [hxg] at bX ⊢
          have n0 : w7.cell? ⟨xg, 0, none⟩ = some (.int .i8 x.kind) := cell_of_row _ _ 0 _ _ _ bX
          have n1 : w7.cell? ⟨xg, 1, none⟩ = some (.int .i16 x.a) := cell_of_row _ _ 1 _ _ _ bX
          have n2 : w7.cell? ⟨xg, 2, none⟩ = some (.int .i16 x.b) := cell_of_row _ _ 2 _ _ _ bX
          have ln := blk_lt bX
          clear a0 a1 a2 zb x0 x1 x2 lb2 HW7 hxg
          by_cases hk2 : 2 ≤ x.kind
          · obtain ⟨a, hae⟩ : ∃ a : Nat, x.a = a := ⟨x.a.toNat, by have := nodeOk_cases Hno.out; omega⟩
            obtain ⟨c, hce⟩ : ∃ c : Nat, x.b = c := ⟨x.b.toNat, by have := nodeOk_cases Hno.out; omega⟩
            have haj : a < j := by have := nodeOk_cases Hno.out; omega
            have hcj : c < j := by have := nodeOk_cases Hno.out; omega
            have haP : a < SP.length := by rw [HPl.out]; exact haj
            have hcP : c < SP.length := by rw [HPl.out]; exact hcj
            obtain ⟨ua, hua, hua2⟩ := HIA2.out a haj
            obtain ⟨ub, hub, hub2⟩ := HIA2.out c hcj
            have hnd : relT (atP SP) x = ⟨x.kind, (ua : Int), (ub : Int)⟩ := by unfold relT; rw [if_pos hk2, hae, hce]; simp only [Int.toNat_natCast]; unfold atP; rw [hua2, hub2]
            have Hnd := Lib.hid hnd
            obtain ⟨gp, op, rfl, hcp, hgp, hlep, -⟩ := slIn_someM (SlWIn.of_owns HM5.out.p).sl (by omega)
            have ca0 := hcp a haP
            have cc0 := hcp c hcP
            rw [← getD_at haP, hua2] at ca0
            rw [← getD_at hcP, hub2] at cc0
            have ca := (k7.cell (p := ⟨gp, op + a, none⟩) hgp).trans ca0
            have cc := (k7.cell (p := ⟨gp, op + c, none⟩) hgp).trans cc0
            have hgx : xg ≠ gp := by have := Hxg.out; omega
            have hgp7 := Nat.lt_of_lt_of_le hgp k7.size
            clear ca0 cc0 hgp
            have e1 : IntKind.i16.wrap (ua : Int) = ua := IntWalk.i16_in _ (by omega)
            have e2 : IntKind.i16.wrap (ub : Int) = ub := IntWalk.i16_in _ (by omega)
            have f1 : w7.frozen? ⟨xg, 1, none⟩ = false := frozen_of_row _ _ 1 _ _ bX
            have hk3 : decide ((2 : Int) ≤ x.kind) = true := by simpa using hk2
            rw [hae] at n1
            rw [hce] at n2
            have HbX := Lib.hid bX
            have K7 := Lib.hid k7
            clear hnd hua2 hub2 hcp hk2 bX k7
            go_upto_region 15 with fail
            have kA : Below w5.heap.size w5 (w7.setCell ⟨xg, 1, none⟩ (.int .i16 (ua : Int))) := kSet K7.out (p := ⟨xg, 1, none⟩) Hxg.out (.int .i16 (ua : Int))
            have bA : (w7.setCell ⟨xg, 1, none⟩ (.int .i16 (ua : Int))).heap[xg]? = some (.cells #[.int .i8 x.kind, .int .i16 (ua : Int), .int .i16 x.b] 48 (0, 0)) := blk_set_same' (i := 1) (v := .int .i16 (ua : Int)) HbX.out
            have cc2 : (w7.setCell ⟨xg, 1, none⟩ (.int .i16 (ua : Int))).cell? ⟨gp, op + c, none⟩ = some (.int .i64 (ub : Int)) := (World.cell?_setCell_far _ _ _ _ hgx).trans cc
            have lgp : gp < (w7.setCell ⟨xg, 1, none⟩ (.int .i16 (ua : Int))).heap.size := by simpa [World.setCell] using hgp7
            generalize (w7.setCell ⟨xg, 1, none⟩ (.int .i16 (ua : Int))) = wa at kA bA cc2 lgp ⊢
            clear n0 n1 n2 ca cc f1 ln hgp7 hgx HbX K7
            rw [hce] at bA
            have n1 : wa.cell? ⟨xg, 1, none⟩ = some (.int .i16 (ua : Int)) := cell_of_row _ _ 1 _ _ _ bA
            have n2 : wa.cell? ⟨xg, 2, none⟩ = some (.int .i16 (c : Int)) := cell_of_row _ _ 2 _ _ _ bA
            have f2 : wa.frozen? ⟨xg, 2, none⟩ = false := frozen_of_row _ _ 2 _ _ bA
            have ln := blk_lt bA
            have kW := Lib.hid (kSet kA (p := ⟨xg, 2, none⟩) Hxg.out (.int .i16 (ub : Int)))
            have HBX := Lib.hid (show (wa.setCell ⟨xg, 2, none⟩ (.int .i16 (ub : Int))).heap[xg]? = some (.cells #[.int .i8 x.kind, .int .i16 (ua : Int), .int .i16 (ub : Int)] 48 (0, 0)) from blk_set_same' (i := 2) (v := .int .i16 (ub : Int)) bA)
            clear kA bA
            go_upto_region 16 with fail
            clear n1 n2 cc2 f2 ln lgp hk3 e1 e2
            obtain ⟨y0, y1, y2⟩ := HXX.out (wa.setCell ⟨xg, 2, none⟩ (.int .i16 (ub : Int))) (kTrans HB5.out kW.out)
            have hct := HCt.out (wa.setCell ⟨xg, 2, none⟩ (.int .i16 (ub : Int))) (kTrans HB5.out kW.out)
            have lgr := Nat.lt_of_lt_of_le hgT (kTrans HB5.out kW.out).size
            have HM7 := Lib.hid (HM5.out.below kW.out)
            have HB7 := Lib.hid (kTrans HB5.out kW.out)
            clear HM5 HB5 kW
            have HM5 := HM7
            have HB5 := HB7
            have HX5 := HBX
            clear HM7 HB7 HBX
            generalize (wa.setCell ⟨xg, 2, none⟩ (.int .i16 (ub : Int))) = w5 at y0 y1 y2 hct lgr HM5 HB5 HX5 ⊢
            have HKO : Hid (w5.ownsRow B1 39 1 (.slice ka ix kc) ix (flatUs SK)) := Lib.hid (by have h := HM5.out.k; rwa [Hm_.out] at h)
            go_wp2_with (at_builtin; refine wpList_append_own _ rfl _ _ 101 rfl B1 39 u0 _ 1 8 Try.underlying101 Hu.out Hu1.out Hu2.out Hu3.out rfl (by decide) (.slice ka ix kc) ix (flatUs SK) rfl (owns_below HKO.out (by repeat (first | with_reducible exact Below.refl _ _ | (with_reducible refine kSet ?_ ?hB _; case hB => (simp; try omega)) | with_reducible refine kAlloc ?_ _ | with_reducible refine Below.drew ?_ | with_reducible refine kDrewN ?_ _ | with_reducible refine kTrans ?_ (by assumption)))) ⟨w5.heap.size, 0, none⟩ 1 1 [.int .u64 t] rfl rfl (World.news_of_block (cs := #[.int .u64 t]) (heap_alloc_new _ _)) (by simp [Value.oneCell']) ?qc4 ?qc5 ?qc6 ?_)
            case qc4 => unfold maxLen; omega
            case qc5 => omega
            case qc6 => have := HB5.out.size; have := HBe2.out; have := HM5.out.sz; simp; omega
            intro v8 w8 hown8 hgr hnil
            have kA : Below w5.heap.size w5 (w5.alloc (.cells #[.int .u64 t] 39)) := kAlloc (Below.refl _ _) _
            have HM8 := Lib.hid ((HM5.out.below kA).putK (K' := SK ++ [t]) hgr (by rw [flatUs_end, List.length_append, Hm_.out]; exact hown8))
            have HB8 := Lib.hid ((kTrans HB5.out kA).grown hgr (kTrans HB5.out kA).size (fun q hq => Nat.le_trans HBe.out (owns_block HKO.out q hq).1))
            have HX8 := Lib.hid ((hgr.block xg (Nat.lt_of_lt_of_le (blk_lt HX5.out) kA.size) (fun e => row_block (owns_below HM5.out.k kA) (blk_below HX5.out kA) (by decide) e.symm)).trans (blk_below HX5.out kA))
            clear hown8 hgr hnil kA HM5 HB5 HX5 HKO y0 y1 y2 hct lgr
            obtain ⟨ka2, kc2, hv8⟩ := owns_slice HM8.out.k
            have hlK : (SK ++ [t]).length = ix + 1 := by rw [List.length_append, Hm_.out]; rfl
            rw [hlK] at hv8
            subst hv8
            clear hlK
            have n0 : w8.cell? ⟨xg, 0, none⟩ = some (.int .i8 x.kind) := cell_of_row _ _ 0 _ _ _ HX8.out
            have n1 : w8.cell? ⟨xg, 1, none⟩ = some (.int .i16 ((ua : Int))) := cell_of_row _ _ 1 _ _ _ HX8.out
            have n2 : w8.cell? ⟨xg, 2, none⟩ = some (.int .i16 ((ub : Int))) := cell_of_row _ _ 2 _ _ _ HX8.out
            have ln := blk_lt HX8.out
            have o1 : w8.cell? ⟨O, 1, none⟩ = some (.slice na ix nc) := cell_of_row _ _ 1 _ _ _ HM8.out.o
            have lO := blk_lt HM8.out.o
            have HMO : Hid (w8.ownsRow (O + 1) 48 3 (.slice na ix nc) ix (flatNd SM)) := Lib.hid (by have h := HM8.out.m; rwa [HMl.out] at h)
            go_wp2_with (at_builtin; refine wpList_append_own _ rfl _ _ 28 rfl (O + 1) 48 m0 _ 3 6 Try.underlying28 Hm.out Hm1.out Hm2.out Hm3.out rfl (by decide) (.slice na ix nc) ix (flatNd SM) rfl (owns_below HMO.out (by repeat (first | with_reducible exact Below.refl _ _ | (with_reducible refine kSet ?_ ?hB _; case hB => (simp; try omega)) | with_reducible refine kAlloc ?_ _ | with_reducible refine Below.drew ?_ | with_reducible refine kDrewN ?_ _ | with_reducible refine kTrans ?_ (by assumption)))) ⟨w8.heap.size, 0, none⟩ 1 1 [.int .i8 x.kind, .int .i16 ((ua : Int)), .int .i16 ((ub : Int))] rfl rfl (World.news_of_block (cs := #[.int .i8 x.kind, .int .i16 ((ua : Int)), .int .i16 ((ub : Int))]) (heap_alloc_new _ _)) (by simp [Value.oneCell']) ?qc4 ?qc5 ?qc6 ?_)
            case qc4 => unfold maxLen; omega
            case qc5 => omega
            case qc6 => have := HM8.out.sz; simp; omega
            intro v9 w9 hown9 hgr hnil
            have kA : Below w8.heap.size w8 (w8.alloc (.cells #[.int .i8 x.kind, .int .i16 ((ua : Int)), .int .i16 ((ub : Int))] 48)) := kAlloc (Below.refl _ _) _
            have hownM : w9.ownsRow (O + 1) 48 3 v9 (SM ++ [relT (atP SP) x]).length (flatNd (SM ++ [relT (atP SP) x])) := by rw [flatNd_end, List.length_append, HMl.out, Hnd.out]; exact hown9
            have hO9 := (HM8.out.below kA).growM hgr
            have HM9 := Lib.hid ((HM8.out.below kA).putM (M' := SM ++ [relT (atP SP) x]) hgr hownM)
            have HB9 := Lib.hid (kSet ((kTrans HB8.out kA).grown hgr (kTrans HB8.out kA).size (fun q hq => by have := (owns_block HMO.out q hq).1; have := HBe.out; omega)) (p := ⟨O, 1, none⟩) (show w1.heap.size ≤ O by have := HBe.out; omega) v9)
            have f7 : w9.frozen? ⟨O, 1, none⟩ = false := frozen_of_row _ _ 1 _ _ hO9
            have d7 : w9.cell? ⟨O, 1, none⟩ = some (.slice na ix nc) := cell_of_row _ _ 1 _ _ _ hO9
            have hl7 := blk_lt hO9
            obtain ⟨na2, nc2, hv9⟩ := owns_slice hownM
            have hlM : (SM ++ [relT (atP SP) x]).length = ix + 1 := by rw [List.length_append, HMl.out]; rfl
            rw [hlM] at hv9
            subst hv9
            clear hown9 hgr hnil kA HM8 HB8 HX8 HMO n0 n1 n2 ln o1 lO hO9 hownM hlM
            go_upto_region 18 with fail
            clear f7 d7 hl7
            have HM5 := HM9
            have HB5 := HB9
            clear HM9 HB9
            generalize (w9.setCell ⟨O, 1, none⟩ (.slice na2 (ix + 1) nc2)) = w5 at HM5 HB5 ⊢
            have HPO : Hid (w5.ownsRow B1 2 1 (.slice (some ⟨gp, op, none⟩) j pc) j (flatIn SP)) := Lib.hid (by have h := HM5.out.p; rwa [HPl.out] at h)
            go_wp2_with (at_builtin; refine wpList_append_own _ rfl _ _ 92 rfl B1 2 i0 _ 1 8 Try.underlying92 Hi.out Hi1.out Hi2.out Hi3.out rfl (by decide) (.slice (some ⟨gp, op, none⟩) j pc) j (flatIn SP) rfl (owns_below HPO.out (by repeat (first | with_reducible exact Below.refl _ _ | (with_reducible refine kSet ?_ ?hB _; case hB => (simp; try omega)) | with_reducible refine kAlloc ?_ _ | with_reducible refine Below.drew ?_ | with_reducible refine kDrewN ?_ _ | with_reducible refine kTrans ?_ (by assumption)))) ⟨w5.heap.size, 0, none⟩ 1 1 [.int .i64 (ix : Int)] rfl rfl (World.news_of_block (cs := #[.int .i64 (ix : Int)]) (heap_alloc_new _ _)) (by simp [Value.oneCell']) ?qc4 ?qc5 ?qc6 ?_)
            case qc4 => unfold maxLen; omega
            case qc5 => omega
            case qc6 => have := HB5.out.size; have := HBe2.out; have := HM5.out.sz; simp; omega
            intro v6 w6 hown6 hgr hnil
            have kA : Below w5.heap.size w5 (w5.alloc (.cells #[.int .i64 (ix : Int)] 2)) := kAlloc (Below.refl _ _) _
            have HM6 := Lib.hid ((HM5.out.below kA).putP (P' := SP ++ [(ix : Int)]) hgr (by rw [flatIn_end, List.length_append, HPl.out]; exact hown6))
            have HB6 := Lib.hid ((kTrans HB5.out kA).grown hgr (kTrans HB5.out kA).size (fun q hq => Nat.le_trans HBe.out (owns_block HPO.out q hq).1))
            clear hown6 hgr hnil kA HM5 HB5 HPO
            go_wp2
            exact ⟨⟨j + 1, A ++ [t], mgStep ⟨SK, SM, SP⟩ x t, _, by omega, by go_num, HA2, HF2, HT2, HI2, Lib.hid (by rw [HSt.out]; exact HM6.out), HB6⟩, by simp [intOf]; omega⟩
          · have hnd : relT (atP SP) x = x := by unfold relT; rw [if_neg hk2]
            have hk3 : decide ((2 : Int) ≤ x.kind) = false := by simpa using hk2
            have Hnd : Hid (relT (atP SP) x = ⟨x.kind, x.a, x.b⟩) := Lib.hid (by rw [hnd])
            have kW := Lib.hid k7
            have HBX := Lib.hid bX
            clear hnd hk2 k7 bX
            go_upto_region 16 with fail
            clear n0 n1 n2 ln hk3
            obtain ⟨y0, y1, y2⟩ := HXX.out w7 (kTrans HB5.out kW.out)
            have hct := HCt.out w7 (kTrans HB5.out kW.out)
            have lgr := Nat.lt_of_lt_of_le hgT (kTrans HB5.out kW.out).size
            have HM7 := Lib.hid (HM5.out.below kW.out)
            have HB7 := Lib.hid (kTrans HB5.out kW.out)
            clear HM5 HB5 kW
            have HM5 := HM7
            have HB5 := HB7
            have HX5 := HBX
            clear HM7 HB7 HBX
            generalize w7 = w5 at y0 y1 y2 hct lgr HM5 HB5 HX5 ⊢
            have HKO : Hid (w5.ownsRow B1 39 1 (.slice ka ix kc) ix (flatUs SK)) := Lib.hid (by have h := HM5.out.k; rwa [Hm_.out] at h)
            go_wp2_with (at_builtin; refine wpList_append_own _ rfl _ _ 101 rfl B1 39 u0 _ 1 8 Try.underlying101 Hu.out Hu1.out Hu2.out Hu3.out rfl (by decide) (.slice ka ix kc) ix (flatUs SK) rfl (owns_below HKO.out (by repeat (first | with_reducible exact Below.refl _ _ | (with_reducible refine kSet ?_ ?hB _; case hB => (simp; try omega)) | with_reducible refine kAlloc ?_ _ | with_reducible refine Below.drew ?_ | with_reducible refine kDrewN ?_ _ | with_reducible refine kTrans ?_ (by assumption)))) ⟨w5.heap.size, 0, none⟩ 1 1 [.int .u64 t] rfl rfl (World.news_of_block (cs := #[.int .u64 t]) (heap_alloc_new _ _)) (by simp [Value.oneCell']) ?qc4 ?qc5 ?qc6 ?_)
            case qc4 => unfold maxLen; omega
            case qc5 => omega
            case qc6 => have := HB5.out.size; have := HBe2.out; have := HM5.out.sz; simp; omega
            intro v8 w8 hown8 hgr hnil
            have kA : Below w5.heap.size w5 (w5.alloc (.cells #[.int .u64 t] 39)) := kAlloc (Below.refl _ _) _
            have HM8 := Lib.hid ((HM5.out.below kA).putK (K' := SK ++ [t]) hgr (by rw [flatUs_end, List.length_append, Hm_.out]; exact hown8))
            have HB8 := Lib.hid ((kTrans HB5.out kA).grown hgr (kTrans HB5.out kA).size (fun q hq => Nat.le_trans HBe.out (owns_block HKO.out q hq).1))
            have HX8 := Lib.hid ((hgr.block xg (Nat.lt_of_lt_of_le (blk_lt HX5.out) kA.size) (fun e => row_block (owns_below HM5.out.k kA) (blk_below HX5.out kA) (by decide) e.symm)).trans (blk_below HX5.out kA))
            clear hown8 hgr hnil kA HM5 HB5 HX5 HKO y0 y1 y2 hct lgr
            obtain ⟨ka2, kc2, hv8⟩ := owns_slice HM8.out.k
            have hlK : (SK ++ [t]).length = ix + 1 := by rw [List.length_append, Hm_.out]; rfl
            rw [hlK] at hv8
            subst hv8
            clear hlK
            have n0 : w8.cell? ⟨xg, 0, none⟩ = some (.int .i8 x.kind) := cell_of_row _ _ 0 _ _ _ HX8.out
            have n1 : w8.cell? ⟨xg, 1, none⟩ = some (.int .i16 (x.a)) := cell_of_row _ _ 1 _ _ _ HX8.out
            have n2 : w8.cell? ⟨xg, 2, none⟩ = some (.int .i16 (x.b)) := cell_of_row _ _ 2 _ _ _ HX8.out
            have ln := blk_lt HX8.out
            have o1 : w8.cell? ⟨O, 1, none⟩ = some (.slice na ix nc) := cell_of_row _ _ 1 _ _ _ HM8.out.o
            have lO := blk_lt HM8.out.o
            have HMO : Hid (w8.ownsRow (O + 1) 48 3 (.slice na ix nc) ix (flatNd SM)) := Lib.hid (by have h := HM8.out.m; rwa [HMl.out] at h)
            go_wp2_with (at_builtin; refine wpList_append_own _ rfl _ _ 28 rfl (O + 1) 48 m0 _ 3 6 Try.underlying28 Hm.out Hm1.out Hm2.out Hm3.out rfl (by decide) (.slice na ix nc) ix (flatNd SM) rfl (owns_below HMO.out (by repeat (first | with_reducible exact Below.refl _ _ | (with_reducible refine kSet ?_ ?hB _; case hB => (simp; try omega)) | with_reducible refine kAlloc ?_ _ | with_reducible refine Below.drew ?_ | with_reducible refine kDrewN ?_ _ | with_reducible refine kTrans ?_ (by assumption)))) ⟨w8.heap.size, 0, none⟩ 1 1 [.int .i8 x.kind, .int .i16 (x.a), .int .i16 (x.b)] rfl rfl (World.news_of_block (cs := #[.int .i8 x.kind, .int .i16 (x.a), .int .i16 (x.b)]) (heap_alloc_new _ _)) (by simp [Value.oneCell']) ?qc4 ?qc5 ?qc6 ?_)
            case qc4 => unfold maxLen; omega
            case qc5 => omega
            case qc6 => have := HM8.out.sz; simp; omega
            intro v9 w9 hown9 hgr hnil
            have kA : Below w8.heap.size w8 (w8.alloc (.cells #[.int .i8 x.kind, .int .i16 (x.a), .int .i16 (x.b)] 48)) := kAlloc (Below.refl _ _) _
            have hownM : w9.ownsRow (O + 1) 48 3 v9 (SM ++ [relT (atP SP) x]).length (flatNd (SM ++ [relT (atP SP) x])) := by rw [flatNd_end, List.length_append, HMl.out, Hnd.out]; exact hown9
            have hO9 := (HM8.out.below kA).growM hgr
            have HM9 := Lib.hid ((HM8.out.below kA).putM (M' := SM ++ [relT (atP SP) x]) hgr hownM)
            have HB9 := Lib.hid (kSet ((kTrans HB8.out kA).grown hgr (kTrans HB8.out kA).size (fun q hq => by have := (owns_block HMO.out q hq).1; have := HBe.out; omega)) (p := ⟨O, 1, none⟩) (show w1.heap.size ≤ O by have := HBe.out; omega) v9)
            have f7 : w9.frozen? ⟨O, 1, none⟩ = false := frozen_of_row _ _ 1 _ _ hO9
            have d7 : w9.cell? ⟨O, 1, none⟩ = some (.slice na ix nc) := cell_of_row _ _ 1 _ _ _ hO9
            have hl7 := blk_lt hO9
            obtain ⟨na2, nc2, hv9⟩ := owns_slice hownM
            have hlM : (SM ++ [relT (atP SP) x]).length = ix + 1 := by rw [List.length_append, HMl.out]; rfl
            rw [hlM] at hv9
            subst hv9
            clear hown9 hgr hnil kA HM8 HB8 HX8 HMO n0 n1 n2 ln o1 lO hO9 hownM hlM
            go_upto_region 18 with fail
            clear f7 d7 hl7
            have HM5 := HM9
            have HB5 := HB9
            clear HM9 HB9
            generalize (w9.setCell ⟨O, 1, none⟩ (.slice na2 (ix + 1) nc2)) = w5 at HM5 HB5 ⊢
            have HPO : Hid (w5.ownsRow B1 2 1 (.slice pa j pc) j (flatIn SP)) := Lib.hid (by have h := HM5.out.p; rwa [HPl.out] at h)
            go_wp2_with (at_builtin; refine wpList_append_own _ rfl _ _ 92 rfl B1 2 i0 _ 1 8 Try.underlying92 Hi.out Hi1.out Hi2.out Hi3.out rfl (by decide) (.slice pa j pc) j (flatIn SP) rfl (owns_below HPO.out (by repeat (first | with_reducible exact Below.refl _ _ | (with_reducible refine kSet ?_ ?hB _; case hB => (simp; try omega)) | with_reducible refine kAlloc ?_ _ | with_reducible refine Below.drew ?_ | with_reducible refine kDrewN ?_ _ | with_reducible refine kTrans ?_ (by assumption)))) ⟨w5.heap.size, 0, none⟩ 1 1 [.int .i64 (ix : Int)] rfl rfl (World.news_of_block (cs := #[.int .i64 (ix : Int)]) (heap_alloc_new _ _)) (by simp [Value.oneCell']) ?qc4 ?qc5 ?qc6 ?_)
            case qc4 => unfold maxLen; omega
            case qc5 => omega
            case qc6 => have := HB5.out.size; have := HBe2.out; have := HM5.out.sz; simp; omega
            intro v6 w6 hown6 hgr hnil
            have kA : Below w5.heap.size w5 (w5.alloc (.cells #[.int .i64 (ix : Int)] 2)) := kAlloc (Below.refl _ _) _
            have HM6 := Lib.hid ((HM5.out.below kA).putP (P' := SP ++ [(ix : Int)]) hgr (by rw [flatIn_end, List.length_append, HPl.out]; exact hown6))
            have HB6 := Lib.hid ((kTrans HB5.out kA).grown hgr (kTrans HB5.out kA).size (fun q hq => Nat.le_trans HBe.out (owns_block HPO.out q hq).1))
            clear hown6 hgr hnil kA HM5 HB5 HPO
            go_wp2
            exact ⟨⟨j + 1, A ++ [t], mgStep ⟨SK, SM, SP⟩ x t, _, by omega, by go_num, HA2, HF2, HT2, HI2, Lib.hid (by rw [HSt.out]; exact HM6.out), HB6⟩, by simp [intOf]; omega⟩
    · obtain rfl : j = N := by omega
      obtain rfl : S = R := by rw [← hf.out, mgA_end (by rw [Hn.out]; exact Nat.le_refl _)]
      have HMO := Lib.hid hMW.out.out
      have HB := hb
      have HPl : Hid (S.P.length = j) := Lib.hid (by rw [hI.out.pl, hA.out])
      have HKle : Hid (S.K.length ≤ j) := Lib.hid (by have := hI.out.le; rw [hA.out] at this; exact this)
      have HIA := Lib.hid (fun s (hs : s < j) => hI.out.at_ s (by rw [hA.out]; exact hs))
      obtain ⟨na, nc, rfl⟩ := owns_slice HMO.out.m
      obtain ⟨pa, pc, rfl⟩ := owns_slice HMO.out.p
      obtain ⟨gp, op, rfl, hcp, hgp, hlep, -⟩ := slIn_someM (SlWIn.of_owns HMO.out.p).sl (by have := HPl.out; omega)
      obtain ⟨SP, hSP⟩ : ∃ SP, S.P = SP := ⟨_, rfl⟩
      obtain ⟨SM, hSM⟩ : ∃ SM, S.M = SM := ⟨_, rfl⟩
      have HSP := Lib.hid hSP
      have HSM := Lib.hid hSM
      rw [hSP] at HMO HPl hcp hlep HIA ⊢
      rw [hSM] at HMO
      obtain ⟨L, hL⟩ : ∃ L, pickP (atP SP) p = L := ⟨_, rfl⟩
      have HL0 : Hid (([] : List Int) ++ pickP (atP SP) (p.drop 0) = L) := Lib.hid hL
      have HLL := Lib.hid hL
      have hpN := HPl.out
      rw [hpN]
      clear hf ht hI hA hMW hb hcp hgp hSP hSM hL hpN lb2
      go_wp2
      go_loopw [11] (fun z wr => ∃ (i : Nat) (A : List Int) (u : Value), i ≤ q ∧ z = .int .i64 i ∧ A.length ≤ i ∧ Hid (A ++ pickP (atP SP) (p.drop i) = L) ∧ Hid (MO wr B1 O n (.slice (some ⟨gp, op, none⟩) SP.length pc) (.slice na SM.length nc) u SP SM A) ∧ Hid (Below w1.heap.size w1 wr)) (fun z _ => q - (intOf z).toNat)
      case atStart => exact ⟨0, [], _, by omega, rfl, Nat.le_refl _, HL0, HMO, HB⟩
      case round =>
        clear HL0 HMO HB x0 x1 x2
        obtain ⟨i, A, u, hi, rfl, hAl, hf, hM, hb⟩ := hrel
        have hbw := kTrans HB1.out hb.out
        obtain ⟨x0, x1, x2⟩ := id (HX.out _ hbw)
        have lb2 := (HX.out _ hbw).lt
        by_cases hiq : i < q
        · have hlk : i < p.length := by rw [Hq.out]; exact hiq
          have cp := (HK.out wr hbw).p1 i hlk
          have zk := (HK.out wr hbw).z1
          have hr := HRO.out _ (List.getElem_mem hlk)
          have hf2 := hf.out
          rw [show pickP (atP SP) (p.drop i) = atP SP (p[i]).toNat :: pickP (atP SP) (p.drop (i + 1)) by rw [List.drop_eq_getElem_cons hlk]; rfl] at hf2
          generalize p[i] = x at cp hr hf2
          simp only [Nat.zero_add] at cp
          obtain ⟨kx, rfl⟩ : ∃ kx : Nat, x = kx := ⟨x.toNat, by omega⟩
          rw [Int.toNat_natCast] at hf2
          have hkj : kx < j := by omega
          have hkP : kx < SP.length := by rw [HPl.out]; exact hkj
          obtain ⟨y, hy1, hy2, _⟩ := HIA.out kx hkj
          have hy3 : y < 80 := by have := HKle.out; omega
          obtain ⟨hcs, lgp⟩ := ins_of_row hM.out.p (by omega)
          have cs := hcs kx hkP
          rw [← getD_at hkP, hy2] at cs
          unfold atP at hf2
          rw [hy2] at hf2
          have HF : Hid ((A ++ [(y : Int)]) ++ pickP (atP SP) (p.drop (i + 1)) = L) := Lib.hid (by rw [← hf2]; simp; rfl)
          have hpN := HPl.out
          obtain ⟨ta, tc, rfl⟩ := owns_slice hM.out.s
          have o2 : wr.cell? ⟨O, 2, none⟩ = some (.slice ta A.length tc) := cell_of_row _ _ 2 _ _ _ hM.out.o
          have lO := blk_lt hM.out.o
          have hw16 : IntKind.i16.wrap (y : Int) = y := IntWalk.i16_in _ (by omega)
          have HD := Lib.hid (show Below wr.heap.size wr (wr.alloc (.cells #[.int .i16 (y : Int)] 46)).drew from Below.drew (kAlloc (Below.refl _ _) _))
          have hbX : O + 1 ≤ (wr.alloc (.cells #[.int .i16 (y : Int)] 46)).drew.heap.size := Nat.le_trans hM.out.sz HD.out.size
          have hml : A.length + 1 ≤ maxLen := by unfold maxLen; omega
          have hmb : (A.length + 1) * 2 ≤ 140737488355328 := by omega
          clear hf hf2 hy1 hy2 hpN hcs
          go_wp2
          go_region_law
            (first
            | (refine step_append_own rfl _ _ 24 rfl (O + 1) 46 j0 _ 1 2 Try.underlying24 Hj.out Hj1.out Hj2.out Hj3.out rfl (by decide) (.slice ta A.length tc) A.length (flatSh A) rfl (owns_below hM.out.s HD.out) ⟨wr.heap.size, 0, none⟩ 1 1 [.int .i16 (y : Int)] rfl rfl (fun j u hu => World.news_of_block (w := (wr.alloc (.cells #[.int .i16 (y : Int)] 46)).drew) (cs := #[.int .i16 (y : Int)]) (heap_alloc_new wr _) j u hu) (by simp [Value.oneCell']) hml hmb hbX ?_
               intro v7 w7 hown7 hgr hnil
               have hown7' : w7.ownsRow (O + 1) 46 1 v7 (A ++ [(y : Int)]).length (flatSh (A ++ [(y : Int)])) := by rw [flatSh_end, List.length_append]; exact hown7
               have hO7 := (hM.out.below HD.out).growS hgr
               have HM7 := Lib.hid ((hM.out.below HD.out).putS (A' := A ++ [(y : Int)]) hgr hown7')
               have HB7 := Lib.hid ((kTrans hb.out HD.out).grown hgr (kTrans hb.out HD.out).size (fun q hq => by have := (owns_block hM.out.s q hq).1; have := HBe.out; omega))
               have f7 : w7.frozen? ⟨O, 2, none⟩ = false := frozen_of_row _ _ 2 _ _ hO7
               have o2 : w7.cell? ⟨O, 2, none⟩ = some (.slice ta A.length tc) := cell_of_row _ _ 2 _ _ _ hO7
               have hl7 := blk_lt hO7
               obtain ⟨M, hM9⟩ : ∃ M, (A ++ [(y : Int)]).length = M := ⟨_, rfl⟩
               have HM9 := Lib.hid hM9
               obtain ⟨ua, uc, rfl⟩ := owns_slice hown7'
               rw [hM9] at HM7 ⊢
               clear hown7 hgr hnil hO7 hown7' hM9))
          all_goals
            have HB8 := Lib.hid (kSet HB7.out (p := ⟨O, 2, none⟩) (show w1.heap.size ≤ O by have := HBe.out; omega) (.slice ua M uc))
            clear hM hb lO cp cs zk x0 x1 x2 lb2 lgp o2 f7 hl7
            go_wp2
            exact ⟨⟨i + 1, _, _, by omega, by go_num, by simp; omega, HF, HM7, HB8⟩, by simp [intOf] <;> omega⟩
        · obtain rfl : i = q := by omega
          obtain rfl : A = L := by have h := hf.out; rw [List.drop_of_length_le (by rw [Hq.out]; exact Nat.le_refl _)] at h; simpa [pickP] using h
          obtain ⟨ta, tc, rfl⟩ := owns_slice hM.out.s
          have rs_ := HBR.out wr hbw
          have o0 : wr.cell? ⟨O, 0, none⟩ = some (.int .i8 (n : Int)) := cell_of_row _ _ 0 _ _ _ hM.out.o
          have o1 : wr.cell? ⟨O, 1, none⟩ = some (.slice na SM.length nc) := cell_of_row _ _ 1 _ _ _ hM.out.o
          have o2 : wr.cell? ⟨O, 2, none⟩ = some (.slice ta A.length tc) := cell_of_row _ _ 2 _ _ _ hM.out.o
          have lO := blk_lt hM.out.o
          have lr_ := blk_lt rs_
          have hpN := HPl.out
          have hRB : w.heap.size < B1 := by have := HBe2.out; have := HBe.out; omega
          have HMR : Hid (MgR w.heap.size (wr.setRow w.heap.size #[.int .i8 (n : Int), .slice na SM.length nc, .slice ta A.length tc]) ⟨S.K, SM, SP⟩ A (.slice na SM.length nc) (.slice ta A.length tc) (.slice (some ⟨gp, op, none⟩) SP.length pc)) :=
            Lib.hid ⟨owns_rowset (owns_mono (show w.heap.size + 1 ≤ O + 1 by omega) hM.out.m) (Nat.lt_succ_self _) |> owns_mono (Nat.le_succ _), owns_rowset (owns_mono (show w.heap.size + 1 ≤ O + 1 by omega) hM.out.s) (Nat.lt_succ_self _) |> owns_mono (Nat.le_succ _), owns_rowset (owns_mono (show w.heap.size + 1 ≤ B1 by omega) hM.out.p) (Nat.lt_succ_self _) |> owns_mono (Nat.le_succ _)⟩
          have HTT := Lib.hid (kTrans HK0.out hbw)
          have HSE : Hid (⟨S.K, SM, SP⟩ = S) := Lib.hid (by cases S; simp only at HSP HSM; rw [← HSP.out, ← HSM.out])
          rw [← hpN]
          clear hf hM hb hbw hpN
          go_wp2_with (refine wpList_store_row rfl 30 _ _ rfl (w.heap.size) #[.int .i8 (n : Int), .slice na SM.length nc, .slice ta A.length tc] rfl rfl 30 _ rs_ (by kernel_rfl) (by kernel_rfl) (by kernel_rfl) ?_)
          refine bodyPost_ret (v := .tuple #[.agg #[.int .i8 (n : Int), .slice na SM.length nc, .slice ta A.length tc], .slice (some ⟨gp, op, none⟩) SP.length pc]) (results_cell_tmp rfl _ _ (w.heap.size) 30 #[.int .i8 (n : Int), .slice na SM.length nc, .slice ta A.length tc] (0, 0) _ _ rfl rfl (setRow_heap _ _ _ _ _ _ rs_) Try.underlying30 rfl (by kernel_rfl)) rfl ?_
          exact ⟨_, _, _, rfl, by rw [← HSE.out]; simp only; rw [HLL.out]; exact HMR.out, kRowW HTT.out (Nat.le_refl _) _⟩
theorem l04Merge_any (n bb b k : Nat) (l : List Nd) (p : List Int) (w : World) (h0 : NwAt w bb n (.slice (some ⟨b, 0, none⟩) l.length l.length) (.slice (some ⟨k, 0, none⟩) p.length p.length)) (h : NK w b k l p) (hok : netOk n l p = true) (R : MgS) (hR : mgOf n l = R) :
    Calls Try.prog 60 #[.pointer (some ⟨bb, 0, none⟩)] w fun e w' => ∃ v u pl, e = .returned (.tuple #[.agg #[.int .i8 n, v, u], pl]) ∧ MgR w.heap.size w' R (pickP (atP R.P) p) v u pl ∧ Below w.heap.size w w' :=
  l04Merge_anyC n bb b k l.length p.length l p w h0 h hok R hR
end Go.Proofs.Ytdnjamlibnmpfaa
