/- Nodes with the same table made one: the program. -/
import Derived.Test.YtdnjamlibnmpfaaKp
namespace Go.Proofs.Ytdnjamlibnmpfaa
open Go.ChangeShapes Go.WideShapes Go.ChangeAt Go.RowKit Go.Joins Go.Deep
set_option linter.unusedVariables false
set_option linter.unusedSimpArgs false
set_option maxRecDepth 100000 in
set_option maxHeartbeats 4000000 in
theorem itemsS_at (g N vc k q kc : Nat) (P : Nat → Int) (p : List Int) (w : World) (hS : SRow w g N P) (hcap : N ≤ vc) (hp : ShsAt w k 0 p) (hk : k < w.heap.size) (hq : p.length = q) (hN : N ≤ 1000) (hq8 : q ≤ 8) (hr : ∀ x ∈ p, 0 ≤ x ∧ x < N) (L : List Int) (hL : pickP P p = L) :
    Calls Try.prog 28 #[.slice (some ⟨g, 0, none⟩) N vc, .slice (some ⟨k, 0, none⟩) q kc] w fun e w' => e = .returned (.slice (some ⟨w.heap.size, 0, none⟩) q q) ∧ ShsAt w' w.heap.size 0 L ∧ w.heap.size < w'.heap.size ∧ (∀ j, w'.frozen? ⟨w.heap.size, j, none⟩ = false) ∧ Below w.heap.size w w' := by
  obtain ⟨i0, hi, hz0, hz1, hz2⟩ := info_parts info_i16n
  have Hq := Lib.hid hq
  have HR := Lib.hid hr
  have HLt := Lib.hid (show L.length = q by rw [← hL, pickP_length, hq])
  have HLg : Hid (∀ (i : Nat) (h : i < L.length) (h' : i < p.length), L[i] = P (p[i]).toNat) := Lib.hid (by subst hL; exact fun i h h' => by simp [pickP])
  have HS := Lib.hid (fun W (hW : Below w.heap.size w W) => hS.below hW)
  clear hq hr hL hS
  go_enter Try.func28, Try.ntmps28
  go_wp2_with (refine wpList_make_full _ rfl _ _ 24 rfl w.heap.size 46 i0 _ 1 Try.underlying24 hi hz0 hz1 _ _ _ _ q rfl rfl rfl rfl ?c1 ?c2 ?c3 ?_)
  case c1 => rw [hz2]; omega
  case c2 => unfold maxLen; omega
  case c3 => exact Nat.le_refl _
  intro w1 hown hgr
  have hF : FilledSh w1 w.heap.size 0 q L 0 := FilledSh.made (w' := w) (v := .int .i16 0) hown
  have hB : Below w.heap.size w w1 := (Below.refl _ _).grown hgr (Nat.le_refl _) (by intro k hk; cases hk)
  have HF := Lib.hid hF
  clear hown hgr hz0 hz1 hz2 hi i0 hF
  go_wp2
  go_loopw [6, 7, 13] (fun _ _ i wr => ∃ j : Nat, j ≤ q ∧ i = .int .i64 j ∧ Hid (FilledSh wr w.heap.size 0 q L j) ∧ Below w.heap.size w wr) (fun _ _ i _ => q - (intOf i).toNat)
  case atStart => exact ⟨0, by omega, rfl, HF, hB⟩
  case round =>
    clear HF hB
    obtain ⟨j, hj, rfl, hf, hbr⟩ := hrel
    by_cases hlt : j < q
    · have hlk : j < p.length := by rw [Hq.out]; exact hlt
      have hlL : j < L.length := by rw [HLt.out]; exact hlt
      have hpc := (hp.below hbr hk) j hlk
      have hgt := HLg.out j hlL hlk
      have hrr := HR.out _ (List.getElem_mem hlk)
      generalize p[j] = x at hpc hgt hrr
      obtain ⟨kx, rfl⟩ : ∃ kx : Nat, x = kx := ⟨x.toNat, by omega⟩
      have hkN : kx < N := by omega
      rw [Int.toNat_natCast] at hgt
      have ht := (HS.out _ hbr).at_ kx hkN
      have hgl := (HS.out _ hbr).lt
      generalize P kx = y at hgt ht
      simp only [Nat.zero_add] at hpc
      have hbx := hf.out.1
      obtain ⟨v0, d0⟩ := hf.out.2.2.1 j hlt
      have f0 := hf.out.2.2.2 j
      have HF3 := Lib.hid (hf.out.store hlL hgt hlt)
      have HB3 := Lib.hid (kSet hbr (show w.heap.size ≤ (⟨w.heap.size, 0 + j, none⟩ : Addr).block from Nat.le_refl _) (.int .i16 y))
      have hk3 := Nat.lt_of_lt_of_le hk hbr.size
      simp only [Nat.zero_add] at d0 HF3 HB3
      clear hgt hf
      go_wp2
      exact ⟨⟨j + 1, by omega, by go_num, HF3, HB3.out⟩, by simp [intOf]; omega⟩
    · obtain rfl : j = q := by omega
      have H1 := Lib.hid (show ShsAt wr w.heap.size 0 L from fun i hi => hf.out.2.1 i hi (by have := HLt.out; omega))
      have H2 := hf.out.1
      have H3 := Lib.hid hf.out.2.2.2
      clear hf
      go_wp2
      go_ret
      exact ⟨rfl, H1.out, H2, H3.out, hbr⟩

theorem row_sh {w : World} {base n : Nat} {e : TypeId} {v : Value} {P : List Int} (h : w.ownsRow base e 1 v n (flatSh P)) (h0 : 0 < P.length) : ∃ g cap, v = .slice (some ⟨g, 0, none⟩) n cap ∧ n = P.length ∧ SRow w g P.length (atP P) ∧ base ≤ g ∧ n ≤ cap := by
  obtain ⟨hl, h | ⟨g, cap, cur, rfl, hb, hg, hn, hm, hs, ht⟩⟩ := h
  · obtain ⟨rfl, rfl⟩ := h
    rw [flatSh_length] at hl
    omega
  · rw [flatSh_length] at hl
    obtain rfl : n = P.length := by omega
    refine ⟨g, cap, rfl, rfl, ⟨(Array.getElem?_eq_some_iff.1 hg).1, fun k hk => ?_, fun j => frozen_of_row w _ j _ _ hg⟩, hb, hn⟩
    have hjs : k < cur.toList.length := by rw [Array.length_toList, hs]; omega
    have e1 : (flatSh P)[k]? = some (.int .i16 (atP P k)) := by
      unfold flatSh atP
      rw [List.getElem?_map, List.getElem?_eq_getElem hk]
      simp [List.getD_eq_getElem?_getD, List.getElem?_eq_getElem hk]
    rw [← e1, ← ht, List.getElem?_take_of_lt (by omega), List.getElem?_eq_getElem hjs]
    exact (cell_of_row w g k cur e _ hg).trans (by simp)
theorem relinked_list (ni : Int) (base : Nat) (x : Nd) (P : List Int) (v : Value) (w : World) (h : w.ownsRow base 46 1 v P.length (flatSh P)) (hx : nodeOk ni P.length x = true) (hN : P.length ≤ 1000) :
    Calls Try.prog 26 #[.agg #[.int .i8 x.kind, .int .i16 x.a, .int .i16 x.b], v] w fun e w' => e = .returned (.agg #[.int .i8 (relT (atP P) x).kind, .int .i16 (relT (atP P) x).a, .int .i16 (relT (atP P) x).b]) ∧ Below w.heap.size w w' := by
  by_cases h2 : x.kind = 2 ∨ x.kind = 3
  · obtain ⟨g, cap, rfl, -, hS, -, hc⟩ := row_sh h (by rcases nodeOk_cases hx with h | h | h <;> omega)
    exact relinked_any ni P.length g P.length cap x (atP P) w hx hS (Nat.le_refl _) hN hc
  · have e : relT (atP P) x = x := by unfold relT; rw [if_neg (by rcases nodeOk_cases hx with h | h | h <;> omega)]
    rw [e]
    exact relinked_no x v w h2
theorem mgStep_kK (K : List Int) (M : List Nd) (P : List Int) (x : Nd) (t : Int) : mgStep ⟨K, M, P⟩ x t = ⟨kK K t, kM K M t (relT (atP P) x), P ++ [(K.idxOf t : Int)]⟩ := by
  unfold mgStep kK kM
  simp only
  by_cases h : K.idxOf t < K.length
  · rw [if_pos h, if_pos h, if_pos h]
  · rw [if_neg h, if_neg h, if_neg h]
    have e : K.idxOf t = K.length := Nat.le_antisymm (idx_le K t) (Nat.le_of_not_lt h)
    rw [e]
/-- the program's rows while it merges -/
structure PW (w : World) (Kp Mp Pl n : Nat) (kv nv pv : Value) (K : List Int) (M : List Nd) (G : List (Nd × Int)) (P : List Int) : Prop where
  kw : KW w Kp Mp n kv nv K M G
  p : w.ownsRow (Pl + 1) 46 1 pv P.length (flatSh P)
  po : w.heap[Pl]? = some (.cells #[pv] 54 (0, 0))
  lt : Kp < Pl
theorem PW.below {w w' : World} {Kp Mp Pl n : Nat} {kv nv pv : Value} {K : List Int} {M : List Nd} {G : List (Nd × Int)} {P : List Int} (h : PW w Kp Mp Pl n kv nv pv K M G P) (b : Below w.heap.size w w') : PW w' Kp Mp Pl n kv nv pv K M G P :=
  ⟨h.kw.below b, owns_below h.p b, blk_below h.po b, h.lt⟩
theorem own_keptK {w w' : World} {b s n Kp Mp : Nat} {e : TypeId} {v kv nv : Value} {xs : List Value} (h : w.ownsRow b e s v n xs) (g : KeptK w w' Kp Mp kv nv) (h1 : v.ownBlock ≠ some Kp) (h2 : v.ownBlock ≠ some Mp) (h3 : v.ownBlock = none ∨ v.ownBlock ≠ kv.ownBlock) (h4 : v.ownBlock = none ∨ v.ownBlock ≠ nv.ownBlock) : w'.ownsRow b e s v n xs := by
  refine ⟨h.1, ?_⟩
  rcases h.2 with h5 | ⟨q, cap, cur, rfl, h6, h7, r⟩
  · exact .inl h5
  · refine .inr ⟨q, cap, cur, rfl, h6, ?_, r⟩
    have hq : (Value.slice (some ⟨q, 0, none⟩) n cap).ownBlock = some q := rfl
    rw [hq] at h1 h2 h3 h4
    rw [g.block q (blk_lt h7) (fun e => h1 (by rw [e])) (fun e => h2 (by rw [e])) (fun e => h3.elim (fun h => by cases h) (fun h => h e.symm)) (fun e => h4.elim (fun h => by cases h) (fun h => h e.symm))]
    exact h7
theorem PW.keep {w w' : World} {Kp Mp Pl n : Nat} {kv nv pv kv' nv' : Value} {K K' : List Int} {M M' : List Nd} {G G' : List (Nd × Int)} {P : List Int} (h : PW w Kp Mp Pl n kv nv pv K M G P) (hk : KW w' Kp Mp n kv' nv' K' M' G') (g : KeptK w w' Kp Mp kv nv) : PW w' Kp Mp Pl n kv' nv' pv K' M' G' P := by
  have hl := h.lt
  have hn := h.kw.ne
  refine ⟨hk, own_keptK h.p g (row_block h.p h.kw.o (by decide)) (fun e => by have := (h.p.lt Mp e).1; omega) (rows_apart h.p h.kw.k (by decide)) (rows_apart h.p h.kw.m (by decide)), ?_, hl⟩
  exact (g.block Pl (blk_lt h.po) (by omega) (by omega) (row_block h.kw.k h.po (by decide)) (row_block h.kw.m h.po (by decide))).trans h.po
theorem PW.put {w w' : World} {Kp Mp Pl n : Nat} {kv nv pv pv' : Value} {K : List Int} {M : List Nd} {G : List (Nd × Int)} {P P' : List Int} (h : PW w Kp Mp Pl n kv nv pv K M G P) (g : KeptP w w' Pl pv) (hp : w'.ownsRow (Pl + 1) 46 1 pv' P'.length (flatSh P')) (ho : w'.heap[Pl]? = some (.cells #[pv'] 54 (0, 0))) : PW w' Kp Mp Pl n kv nv pv' K M G P' := by
  have hl := h.lt
  have hn := h.kw.ne
  exact ⟨⟨own_keptP h.kw.k g (row_block h.kw.k h.po (by decide)) (rows_apart h.kw.k h.p (by decide)), own_keptP h.kw.m g (row_block h.kw.m h.po (by decide)) (rows_apart h.kw.m h.p (by decide)), (g.block Kp (blk_lt h.kw.o) (by omega) (row_block h.p h.kw.o (by decide))).trans h.kw.o, h.kw.g.of_block (g.block Mp h.kw.g.lt (by omega) (fun e => by have := (h.p.lt Mp e).1; omega)), hn⟩, hp, ho, hl⟩
theorem below_keptK {B Kp Mp : Nat} {a w w' : World} {kv nv : Value} {K : List Int} {M : List Nd} {G : List (Nd × Int)} {n : Nat} (h : Below B a w) (hk : KW w Kp Mp n kv nv K M G) (g : KeptK w w' Kp Mp kv nv) (hB : B ≤ Mp) (hs : B ≤ w.heap.size) : Below B a w' := by
  refine h.trans ⟨g.os, g.tape, g.output, g.size, fun k hkB => g.block k (by omega) (by have := hk.ne; omega) (by omega) (fun e => by have := (hk.k.lt k e).1; have := hk.ne; omega) (fun e => by have := (hk.m.lt k e).1; have := hk.ne; omega)⟩
theorem below_keptP {B P base n s : Nat} {a w w' : World} {e : TypeId} {v : Value} {xs : List Value} (h : Below B a w) (ho : w.ownsRow base e s v n xs) (g : KeptP w w' P v) (hP : B ≤ P) (hb : B ≤ base) (hs : B ≤ w.heap.size) : Below B a w' :=
  h.trans ⟨g.os, g.tape, g.output, g.size, fun k hkB => g.block k (by omega) (by omega) (fun e => by have := (ho.lt k e).1; omega)⟩
def onlyMM (Q : Exit → Act → World → Prop) (e : Exit) (a : Act) (w : World) : Prop := e = .normal ∧ Q .normal a w
theorem regionW_of_HM {id : Nat} {P : Program} {ops : Array Oper} {Q : Exit → Act → World → Prop} {a : Act} {w : World} (S : World → Prop) (hm : P.follows .mixedOrders = true)
    (hS : S w.drew) (h : S w.drew → wpAnyH P .any ops (onlyMM Q) S ops.size (Array.replicate ops.size false) a w.drew) : (Code.region id ops true).wp P Q a w :=
  wp_mono (wp_region_any hm (wpAny_of_held _ _ _ _ (h hS))) (fun e a w hq => by obtain ⟨rfl, hq⟩ := hq; exact hq)
theorem owns_out_M {w w' : World} {a b base s n : Nat} {e : TypeId} {v : Value} {xs : List Value} (h : w.ownsRow base e s v n xs) (g : KeptOut a b w w') (hb : b ≤ base) : w'.ownsRow base e s v n xs := by
  refine ⟨h.1, ?_⟩
  rcases h.2 with h5 | ⟨q, cap, cur, rfl, h6, h7, r⟩
  · exact .inl h5
  · exact .inr ⟨q, cap, cur, rfl, h6, (g.block q (blk_lt h7) (.inr (by omega))).trans h7, r⟩
theorem owns_base_M {w : World} {base base' s n : Nat} {e : TypeId} {v : Value} {xs : List Value} (h : w.ownsRow base e s v n xs) (hb : base' ≤ base) : w.ownsRow base' e s v n xs := by
  refine ⟨h.1, ?_⟩
  rcases h.2 with h5 | ⟨q, cap, cur, rfl, h6, r⟩
  · exact .inl h5
  · exact .inr ⟨q, cap, cur, rfl, by omega, r⟩
theorem frozen_out_M {w w' : World} {a b g j : Nat} (h : KeptOut a b w w') (hg : g < w.heap.size) (ho : b ≤ g) : w'.frozen? ⟨g, j, none⟩ = w.frozen? ⟨g, j, none⟩ := by
  have e := h.block g hg (.inr ho)
  unfold World.frozen?
  simp only [e]
set_option maxRecDepth 100000 in
set_option maxHeartbeats 16000000 in
theorem merged_any (b k n cb ck : Nat) (l : List Nd) (p : List Int) (w : World) (h : NK w b k l p) (hok : netOk n l p = true) (R : MgS) (hR : mgOf n l = R) (L : List Int) (hL : pickP (atP R.P) p = L) :
    Calls Try.prog 63 #[.agg #[.int .i8 n, .slice (some ⟨b, 0, none⟩) l.length cb, .slice (some ⟨k, 0, none⟩) p.length ck]] w fun e w' => ∃ v g pl, e = .returned (.tuple #[.agg #[.int .i8 n, v, .slice (some ⟨g, 0, none⟩) L.length L.length], pl]) ∧
      w'.ownsRow w.heap.size 48 3 v R.M.length (flatNd R.M) ∧ w'.ownsRow w.heap.size 46 1 pl R.P.length (flatSh R.P) ∧ (ShsAt w' g 0 L ∧ g < w'.heap.size ∧ (∀ j, w'.frozen? ⟨g, j, none⟩ = false) ∧ w.heap.size ≤ g ∧ pl.ownBlock ≠ some g) ∧ Below w.heap.size w w' := by
  have hnp := netOk_parts hok
  have hn6 : 1 ≤ n ∧ n ≤ 6 := by omega
  have hl80 : 1 ≤ l.length ∧ l.length ≤ 80 := by omega
  have hp8 : 1 ≤ p.length ∧ p.length ≤ 8 := by omega
  have HRO := Lib.hid (outsOkN_all hnp.2.2.2.2)
  have HN := Lib.hid (fun i (hi : i < l.length) => netOk_node hok i hi)
  have HA0 : Hid (mgA n (l.drop 0) [] mg0 = R) := Lib.hid hR
  have HI0 : Hid (MgInv n [] mg0) := Lib.hid (MgInv.start n)
  have HG0 : Hid (GInv n mg0.K []) := Lib.hid (fun q hq => by simp at hq)
  have hmm := @run_makeMap Try.prog
  obtain ⟨N, hN⟩ : ∃ N, l.length = N := ⟨_, rfl⟩
  obtain ⟨q, hq⟩ : ∃ q, p.length = q := ⟨_, rfl⟩
  have Hn := Lib.hid hN
  have Hq := Lib.hid hq
  have HLL := Lib.hid hL
  have hLq : L.length = q := by rw [← hL, pickP_length, hq]
  rw [hLq]
  rw [hN] at hl80 HRO ⊢
  rw [hq] at hp8 ⊢
  have NETB : World.heap (w.alloc (.cells #[.int .i8 n, .slice (some ⟨b, 0, none⟩) N cb, .slice (some ⟨k, 0, none⟩) q ck] 30)) = World.heap (w.alloc (.cells #[.int .i8 n, .slice (some ⟨b, 0, none⟩) N cb, .slice (some ⟨k, 0, none⟩) q ck] 30)) := rfl
  obtain ⟨W0, hW⟩ : ∃ W0, (w.alloc (.cells #[.int .i8 n, .slice (some ⟨b, 0, none⟩) N cb, .slice (some ⟨k, 0, none⟩) q ck] 30)).alloc (.cells #[.int .i8 0, .slice none 0 0, .slice none 0 0] 30) = W0 := ⟨_, rfl⟩
  have k0 : Below w.heap.size w W0 := by rw [← hW]; exact kAlloc (kAlloc (Below.refl _ _) _) _
  have hsz0 : W0.heap.size = w.heap.size + 2 := by rw [← hW]; simp
  have bX : W0.heap[w.heap.size]? = some (.cells #[.int .i8 n, .slice (some ⟨b, 0, none⟩) N cb, .slice (some ⟨k, 0, none⟩) q ck] 30 (0, 0)) := by rw [← hW]; exact (Below.heap_alloc _ _ _ (by simp)).trans (heap_alloc_new _ _)
  have bR : W0.heap[w.heap.size + 1]? = some (.cells #[.int .i8 0, .slice none 0 0, .slice none 0 0] 30 (0, 0)) := by rw [← hW]; exact heap_two _ _ _
  have HBX := Lib.hid (fun W (hW : Below W0.heap.size W0 W) => blk_below bX hW)
  have HBR := Lib.hid (fun W (hW : Below W0.heap.size W0 W) => blk_below bR hW)
  have HK := Lib.hid (fun W (hW : Below W0.heap.size W0 W) => h.below (kTrans k0 hW))
  have HK0 := Lib.hid k0
  have lw := blk_lt bR
  obtain ⟨x0, x1, x2⟩ := NwAt.of bX
  have HW := Lib.hid hW
  have Hs0 := Lib.hid hsz0
  have hs0 : w.heap.size + 2 ≤ W0.heap.size := Nat.le_of_eq hsz0.symm
  clear NETB h hok hN hq hR hL hW hnp bX bR k0 hLq hsz0
  go_enter Try.func63, Try.ntmps63
  go_upto_region 1 with fail
  try rw [HW.out]
  obtain ⟨W3, hW3⟩ : ∃ W3, ((W0.alloc (.map #[] 0)).alloc (.cells #[.int .i8 (n : Int), .slice none 0 0, .slice none 0 0, .map (some W0.heap.size)] 109)).alloc (.cells #[.slice none 0 0] 54) = W3 := ⟨_, rfl⟩
  have k3 : Below W0.heap.size W0 W3 := by rw [← hW3]; exact kAlloc (kAlloc (kAlloc (Below.refl _ _) _) _) _
  have bM : W3.heap[W0.heap.size]? = some (.map #[] 0) := by rw [← hW3]; exact (Below.heap_alloc _ _ _ (by simp; omega)).trans ((Below.heap_alloc _ _ _ (by simp)).trans (heap_alloc_new _ _))
  have bK : W3.heap[W0.heap.size + 1]? = some (.cells #[.int .i8 (n : Int), .slice none 0 0, .slice none 0 0, .map (some W0.heap.size)] 109 (0, 0)) := by rw [← hW3]; exact (Below.heap_alloc _ _ _ (by simp)).trans (heap_two _ _ _)
  have bP : W3.heap[W0.heap.size + 1 + 1]? = some (.cells #[.slice none 0 0] 54 (0, 0)) := by
    rw [← hW3]
    have h := heap_two (W0.alloc (.map #[] 0)) (.cells #[.int .i8 (n : Int), .slice none 0 0, .slice none 0 0, .map (some W0.heap.size)] 109) (.cells #[.slice none 0 0] 54)
    simpa only [World.size_alloc] using h
  have HPW0 : Hid (PW W3 (W0.heap.size + 1) W0.heap.size (W0.heap.size + 1 + 1) n (.slice none 0 0) (.slice none 0 0) (.slice none 0 0) mg0.K mg0.M [] mg0.P) :=
    Lib.hid ⟨⟨nilT_owns, nilT_owns, bK, ⟨#[], 0, bM, trivial⟩, Nat.lt_succ_self _⟩, nilT_owns, bP, Nat.lt_succ_self _⟩
  have HB3 := Lib.hid k3
  have hz3 := k3.size
  have hlP3 := blk_lt bP
  have HW3 := Lib.hid hW3
  clear bM bK bP k3 hW3
  go_upto_region 3 with fail
  clear x0 x1 x2 hmm
  try rw [HW3.out]
  have y0 := HBX.out W3 HB3.out
  have ly := blk_lt y0
  obtain ⟨x0, x1, x2⟩ := NwAt.of y0
  obtain ⟨Mp, hMp⟩ : ∃ Mp, W0.heap.size = Mp := ⟨_, rfl⟩
  have HMp := Lib.hid (Nat.le_of_eq hMp)
  have HMp2 := Lib.hid (Nat.le_of_eq hMp.symm)
  rw [hMp] at HPW0 hlP3 ⊢
  clear y0 HW3 hMp HW
  go_wp2
  go_loopw [7, 16] (fun _ z wr => ∃ (j : Nat) (A : List Int) (S : MgS) (G : List (Nd × Int)) (kv nv pv : Value), j ≤ N ∧ z = .int .i64 j ∧ Hid (A.length = j) ∧ Hid (mgA n (l.drop j) A S = R) ∧ Hid (MgInv n A S) ∧ Hid (GInv n S.K G) ∧ Hid (PW wr (Mp + 1) Mp (Mp + 1 + 1) n kv nv pv S.K S.M G S.P) ∧ Hid (Below W0.heap.size W0 wr)) (fun _ z _ => N - (intOf z).toNat)
  case atStart => exact ⟨0, [], mg0, [], _, _, _, by omega, rfl, Lib.hid rfl, HA0, HI0, HG0, HPW0, HB3⟩
  case round =>
    clear HA0 HI0 HG0 HPW0 HB3 x0 x1 x2 ly hz3 hlP3
    obtain ⟨j, A, S, G, kv, nv, pv, hj, rfl, hA, hf, hI, hG, hP, hb⟩ := hrel
    by_cases hjN : j < N
    · have hlk : j < l.length := by rw [Hn.out]; exact hjN
      obtain ⟨x, hx⟩ : ∃ x, l[j] = x := ⟨_, rfl⟩
      have hno := HN.out j hlk
      rw [hx] at hno
      obtain ⟨a0, a1, a2⟩ := (show NdAt wr b (0 + j * 3) x by have h := (HK.out wr hb.out).p0 j hlk; rw [hx] at h; exact h)
      have zb := (HK.out wr hb.out).z0
      simp only [Nat.zero_add] at a0 a1 a2
      have hrel := hI.out.rel (by rw [hA.out]; exact hno)
      obtain ⟨t, htd⟩ : ∃ t, tabOf n A x = t := ⟨_, rfl⟩
      rw [htd] at hrel
      have hkle := hI.out.le
      have hkl := hI.out.kl
      have hpl := hI.out.pl
      rw [hA.out] at hkle hpl
      have hf2 := hf.out
      rw [mgA_step hlk hx, htd] at hf2
      have hI2 : MgInv n (A ++ [t]) (mgStep S x t) := by rw [← htd]; exact hI.out.step (by rw [hA.out]; exact hno)
      have HF2 := Lib.hid hf2
      have HI2 := Lib.hid hI2
      have HA2 : Hid ((A ++ [t]).length = j + 1) := Lib.hid (by rw [List.length_append, hA.out]; rfl)
      obtain ⟨SK, SM, SP⟩ := S
      simp only at hP hkle hkl hpl hG hrel
      have HST := Lib.hid (mgStep_kK SK SM SP x t)
      obtain ⟨y, hy⟩ : ∃ y, relT (atP SP) x = y := ⟨_, rfl⟩
      rw [hy] at hrel HST
      obtain ⟨ix, hix⟩ : ∃ ix, SK.idxOf t = ix := ⟨_, rfl⟩
      rw [hix] at HST
      have Hix := Lib.hid hix
      have hxo : nodeOk n SP.length x = true := by rw [hpl]; exact hno
      have HR1 := Lib.hid (fun W (hW : Below wr.heap.size wr W) => by have h := relinked_list (n : Int) (Mp + 1 + 1 + 1) x SP pv W (hP.out.below hW).p hxo (by omega); rw [hy] at h; exact h)
      have HR2 := Lib.hid hrel
      have HPl := Lib.hid hpl
      have HKl := Lib.hid hkl
      clear hx hno htd hf2 hI2 hf hA hI hy hix hxo hrel hpl hkl
      obtain ⟨w5, hW5⟩ : ∃ w5, wr.alloc (.cells #[.int .i8 x.kind, .int .i16 x.a, .int .i16 x.b] 48) = w5 := ⟨_, rfl⟩
      have k5 : Below wr.heap.size wr w5 := by rw [← hW5]; exact kAlloc (Below.refl _ _) _
      have bN : w5.heap[wr.heap.size]? = some (.cells #[.int .i8 x.kind, .int .i16 x.a, .int .i16 x.b] 48 (0, 0)) := by rw [← hW5]; exact nNew _ _
      have HW5 := Lib.hid hW5
      have HP5 := Lib.hid (hP.out.below k5)
      have HB5 := Lib.hid (kTrans hb.out k5)
      have HR5 := Lib.hid (HR1.out _ k5)
      clear hW5 k5 hP hb HR1
      go_upto_region 6 with fail
      try rw [HW5.out]
      obtain ⟨xg, hxg⟩ : ∃ xg, wr.heap.size = xg := ⟨_, rfl⟩
      rw [hxg] at bN ⊢
      clear a0 a1 a2 zb HW5 hxg
      have n0 : w5.cell? ⟨xg, 0, none⟩ = some (.int .i8 x.kind) := cell_of_row _ _ 0 _ _ _ bN
      have n1 : w5.cell? ⟨xg, 1, none⟩ = some (.int .i16 x.a) := cell_of_row _ _ 1 _ _ _ bN
      have n2 : w5.cell? ⟨xg, 2, none⟩ = some (.int .i16 x.b) := cell_of_row _ _ 2 _ _ _ bN
      have ln := blk_lt bN
      have p0 : w5.cell? ⟨Mp + 1 + 1, 0, none⟩ = some pv := cell_of_row _ _ 0 _ _ _ HP5.out.po
      have lp := blk_lt HP5.out.po
      clear bN
      go_wp2_with fail
      refine (HR5.out).mono ?_
      rintro e w6 ⟨rfl, hb6⟩
      have HP6 := Lib.hid (HP5.out.below hb6)
      have HB6 := Lib.hid (kTrans HB5.out hb6)
      have HKP := Lib.hid (keep_any (Mp + 1) Mp n kv nv SK SM G y w6 HP6.out.kw hn6 HR2.out.1 (by omega) HKl.out hG.out t HR2.out.2 ix Hix.out)
      clear n0 n1 n2 ln p0 lp hb6 HP5 HB5 HR5
      go_wp2_with fail
      refine (HKP.out).mono ?_
      rintro e w7 ⟨rfl, ⟨kv', nv', G', hk7, hg7⟩, hp7⟩
      have HP7 := Lib.hid (HP6.out.keep hk7 hp7)
      have HB7 := Lib.hid (below_keptK HB6.out HP6.out.kw hp7 HMp.out (HB6.out.size))
      have HG7 := Lib.hid hg7
      have HPU := Lib.hid (putS_at (Mp + 1 + 1) 0 (Mp + 1 + 1 + 1) _ 54 pv SP (ix : Int) w7 HP7.out.po rfl (by decide) HP7.out.p (by have := blk_lt HP7.out.po; omega) (by have := HPl.out; omega))
      clear hk7 hg7 hp7 HKP HP6 HB6 hG
      go_wp2_with fail
      refine (HPU.out).mono ?_
      rintro e w8 ⟨rfl, ⟨pv', ho8, hp8'⟩, hk8⟩
      have HP8 := Lib.hid (HP7.out.put hk8 hp8' (by rw [ho8]; rfl))
      have HB8 := Lib.hid (below_keptP HB7.out HP7.out.p hk8 (by have := HMp.out; omega) (by have := HMp.out; omega) (HB7.out.size))
      clear HPU ho8 hp8' hk8 HP7 HB7
      go_wp2
      exact ⟨⟨j + 1, A ++ [t], mgStep ⟨SK, SM, SP⟩ x t, G', _, _, _, by omega, by go_num, HA2, HF2, HI2, Lib.hid (by rw [HST.out]; exact HG7.out), Lib.hid (by rw [HST.out]; exact HP8.out), HB8⟩, by simp [intOf]; omega⟩
    · obtain rfl : j = N := by omega
      obtain rfl : S = R := by rw [← hf.out, mgA_end (by rw [Hn.out]; exact Nat.le_refl _)]
      have hpl : S.P.length = j := by rw [hI.out.pl, hA.out]
      have hml : S.M.length ≤ j := by have h1 := hI.out.le; have h2 := hI.out.kl; rw [hA.out] at h1; omega
      obtain ⟨va, vc, rfl⟩ := owns_slice hP.out.kw.m
      obtain ⟨pg, pc, hpv, -, HSp, hpb, hpc⟩ := row_sh hP.out.p (by omega)
      rw [hpl] at hpv HSp hpc
      subst hpv
      have Hpl := Lib.hid hpl
      have HPP := Lib.hid hP.out.p
      have HMM := Lib.hid hP.out.kw.m
      have y0 := HBX.out _ hb.out
      have lX := blk_lt y0
      have hNx := NwAt.of y0
      have o0 : wr.cell? ⟨Mp + 1, 2, none⟩ = some (.slice va S.M.length vc) := cell_of_row _ _ 2 _ _ _ hP.out.kw.o
      have o1 : wr.cell? ⟨Mp + 1 + 1, 0, none⟩ = some (.slice (some ⟨pg, 0, none⟩) j pc) := cell_of_row _ _ 0 _ _ _ hP.out.po
      have lO := blk_lt hP.out.kw.o
      have lO1 := blk_lt hP.out.po
      have HRO2 := Lib.hid HRO.out
      have HIT := Lib.hid (fun W (hW : Below wr.heap.size wr W) => itemsS_at pg j pc k q ck (atP S.P) p W (HSp.below hW) hpc ((HK.out wr hb.out).below hW).p1 ((HK.out wr hb.out).below hW).z1 Hq.out (by omega) (by omega) (by have := HRO2.out; exact this) L HLL.out)
      have Hhb := hb
      have lpg := HSp.lt
      clear hpl hA hI hG hP y0 hb HSp
      go_upto_region 8 with fail
      refine regionW_of_HM (fun W' => NwAt W' w.heap.size n (.slice (some ⟨b, 0, none⟩) j cb) (.slice (some ⟨k, 0, none⟩) q ck) ∧ W'.cell? ⟨Mp + 1, 2, none⟩ = some (.slice va S.M.length vc) ∧ W'.cell? ⟨Mp + 1 + 1, 0, none⟩ = some (.slice (some ⟨pg, 0, none⟩) j pc)) (by kernel_rfl) ⟨hNx, o0, o1⟩ (fun hHeld => ?_)
      clear o0 o1 hNx
      refine wpAnyH_take (i := 0) (v := .pointer (some ⟨w.heap.size, 0, none⟩)) rfl (by kernel_rfl) (by kernel_rfl) (by kernel_rfl) (fun _ _ _ h => absurd h.1 (by simp)) (Or.inl ⟨by rfl, fun w7 hSw => ?_⟩) (by assumption) ?_
      · clear hSw
        go_simp
      try simp only [Act.put, List.setIfInBounds_toArray, List.set_cons_zero, List.set_cons_succ]
      refine wpAnyH_take (i := 1) (v := .int .i8 (n : Int)) rfl (by kernel_rfl) (by kernel_rfl) (by kernel_rfl) (fun _ _ _ h => absurd h.1 (by simp)) (Or.inl ⟨by rfl, fun w7 hSw => ?_⟩) (by assumption) ?_
      · obtain ⟨⟨x0, x1, x2⟩, o0, o1⟩ := hSw
        go_simp
      try simp only [Act.put, List.setIfInBounds_toArray, List.set_cons_zero, List.set_cons_succ]
      refine wpAnyH_take (i := 2) (v := .pointer (some ⟨Mp + 1, 2, none⟩)) rfl (by kernel_rfl) (by kernel_rfl) (by kernel_rfl) (fun _ _ _ h => absurd h.1 (by simp)) (Or.inl ⟨by rfl, fun w7 hSw => ?_⟩) (by assumption) ?_
      · clear hSw
        go_simp
      try simp only [Act.put, List.setIfInBounds_toArray, List.set_cons_zero, List.set_cons_succ]
      refine wpAnyH_take (i := 3) (v := .slice va S.M.length vc) rfl (by kernel_rfl) (by kernel_rfl) (by kernel_rfl) (fun _ _ _ h => absurd h.1 (by simp)) (Or.inl ⟨by rfl, fun w7 hSw => ?_⟩) (by assumption) ?_
      · obtain ⟨⟨x0, x1, x2⟩, o0, o1⟩ := hSw
        go_simp
      try simp only [Act.put, List.setIfInBounds_toArray, List.set_cons_zero, List.set_cons_succ]
      refine wpAnyH_take (i := 4) (v := .slice (some ⟨pg, 0, none⟩) j pc) rfl (by kernel_rfl) (by kernel_rfl) (by kernel_rfl) (fun _ _ _ h => absurd h.1 (by simp)) (Or.inl ⟨by rfl, fun w7 hSw => ?_⟩) (by assumption) ?_
      · obtain ⟨⟨x0, x1, x2⟩, o0, o1⟩ := hSw
        go_simp
      try simp only [Act.put, List.setIfInBounds_toArray, List.set_cons_zero, List.set_cons_succ]
      refine wpAnyH_take (i := 5) (v := .pointer (some ⟨w.heap.size, 2, none⟩)) rfl (by kernel_rfl) (by kernel_rfl) (by kernel_rfl) (fun _ _ _ h => absurd h.1 (by simp)) (Or.inl ⟨by rfl, fun w7 hSw => ?_⟩) (by assumption) ?_
      · clear hSw
        go_simp
      try simp only [Act.put, List.setIfInBounds_toArray, List.set_cons_zero, List.set_cons_succ]
      refine wpAnyH_take (i := 6) (v := .slice (some ⟨k, 0, none⟩) q ck) rfl (by kernel_rfl) (by kernel_rfl) (by kernel_rfl) (fun _ _ _ h => absurd h.1 (by simp)) (Or.inl ⟨by rfl, fun w7 hSw => ?_⟩) (by assumption) ?_
      · obtain ⟨⟨x0, x1, x2⟩, o0, o1⟩ := hSw
        go_simp
      try simp only [Act.put, List.setIfInBounds_toArray, List.set_cons_zero, List.set_cons_succ]
      refine wpAnyH_take (i := 9) (v := .slice (some ⟨pg, 0, none⟩) j pc) rfl (by kernel_rfl) (by kernel_rfl) (by kernel_rfl) (fun _ _ _ h => absurd h.1 (by simp)) (Or.inl ⟨by rfl, fun w7 hSw => ?_⟩) (by assumption) ?_
      · obtain ⟨⟨x0, x1, x2⟩, o0, o1⟩ := hSw
        go_simp
      try simp only [Act.put, List.setIfInBounds_toArray, List.set_cons_zero, List.set_cons_succ]
      refine wpAnyH_ready (rs := [7]) (by kernel_rfl) (by simp) ?_
      refine AllReadyH.cons rfl (fun K hK => ?_) AllReadyH.nil
      go_simp
      go_wp2_with (go_at_call 28
                   refine (HIT.out _ (Below.drew (Below.refl _ _))).mono ?_
                   rintro e w8 ⟨rfl, hs8, hs9, hs10, hb8⟩
                   obtain ⟨g8, hg8⟩ : ∃ g8, wr.drew.heap.size = g8 := ⟨_, rfl⟩
                   rw [hg8] at hs8 hs9 hs10 ⊢
                   have Hg8 := Lib.hid (show wr.heap.size ≤ g8 from Nat.le_of_eq hg8)
                   have HS8 := Lib.hid hs8
                   have HZ8 := Lib.hid hs9
                   have HF8 := Lib.hid hs10
                   have HB8 := Lib.hid (kTrans (Below.drew (Below.refl wr.heap.size wr)) hb8)
                   have S8 : NwAt w8 w.heap.size n (.slice (some ⟨b, 0, none⟩) j cb) (.slice (some ⟨k, 0, none⟩) q ck) ∧ w8.cell? ⟨Mp + 1, 2, none⟩ = some (.slice va S.M.length vc) ∧ w8.cell? ⟨Mp + 1 + 1, 0, none⟩ = some (.slice (some ⟨pg, 0, none⟩) j pc) := ⟨hHeld.1.below hb8 lX, (hb8.cell (p := ⟨Mp + 1, 2, none⟩) lO).trans hHeld.2.1, (hb8.cell (p := ⟨Mp + 1 + 1, 0, none⟩) lO1).trans hHeld.2.2⟩
                   clear hs8 hs9 hs10 hb8 hg8)
      refine hK.out _ _ S8 (fun hHeld => ?_)
      clear hK K HIT
      refine wpAnyH_take (i := 8) (v := .agg #[.int .i8 (n : Int), .slice va S.M.length vc, .slice (some ⟨g8, 0, none⟩) q q]) rfl (by kernel_rfl) (by kernel_rfl) (by kernel_rfl) (fun _ _ _ h => absurd h.1 (by simp)) (Or.inl ⟨by rfl, fun w7 hSw => ?_⟩) (by assumption) ?_
      · clear hSw
        go_simp
      try simp only [Act.put, List.setIfInBounds_toArray, List.set_cons_zero, List.set_cons_succ]
      have rs_ := HBR.out w8 (kTrans Hhb.out HB8.out)
      have r0 : w8.cell? ⟨w.heap.size + 1, 0, none⟩ = some (.int .i8 0) := cell_of_row _ _ 0 _ _ _ rs_
      have r1 : w8.cell? ⟨w.heap.size + 1, 1, none⟩ = some (.slice none 0 0) := cell_of_row _ _ 1 _ _ _ rs_
      have r2 : w8.cell? ⟨w.heap.size + 1, 2, none⟩ = some (.slice none 0 0) := cell_of_row _ _ 2 _ _ _ rs_
      have q0 : w8.frozen? ⟨w.heap.size + 1, 0, none⟩ = false := frozen_of_row _ _ 0 _ _ rs_
      have q1 : w8.frozen? ⟨w.heap.size + 1, 1, none⟩ = false := frozen_of_row _ _ 1 _ _ rs_
      have q2 : w8.frozen? ⟨w.heap.size + 1, 2, none⟩ = false := frozen_of_row _ _ 2 _ _ rs_
      have lr_ := blk_lt rs_
      have HR3 := Lib.hid (box3_set (x' := .int .i8 (n : Int)) (y' := .slice va S.M.length vc) (z' := .slice (some ⟨g8, 0, none⟩) q q) rs_)
      have hkr : KeptOut (w.heap.size + 1) (w.heap.size + 2) w8 (((w8.setCell ⟨w.heap.size + 1, 0, none⟩ (.int .i8 (n : Int))).setCell ⟨w.heap.size + 1, 1, none⟩ (.slice va S.M.length vc)).setCell ⟨w.heap.size + 1, 2, none⟩ (.slice (some ⟨g8, 0, none⟩) q q)) :=
        (((KeptOut.of_below (Below.refl _ _)).set ⟨w.heap.size + 1, 0, none⟩ (Nat.le_refl _) (Nat.lt_succ_self _) _).set ⟨w.heap.size + 1, 1, none⟩ (Nat.le_refl _) (Nat.lt_succ_self _) _).set ⟨w.heap.size + 1, 2, none⟩ (Nat.le_refl _) (Nat.lt_succ_self _) _
      have hMW : w.heap.size + 2 ≤ Mp := by have := HMp.out; omega
      have hgz : wr.heap.size ≤ g8 := Hg8.out
      have HBB := Lib.hid (kSet (kSet (kSet (kTrans HK0.out (kTrans Hhb.out HB8.out)) (p := ⟨w.heap.size + 1, 0, none⟩) (Nat.le_succ _) (.int .i8 (n : Int))) (p := ⟨w.heap.size + 1, 1, none⟩) (Nat.le_succ _) (.slice va S.M.length vc)) (p := ⟨w.heap.size + 1, 2, none⟩) (Nat.le_succ _) (.slice (some ⟨g8, 0, none⟩) q q))
      have HO1 := Lib.hid ((owns_out_M (owns_below HMM.out HB8.out) hkr (by omega)))
      have HO2 := Lib.hid ((owns_out_M (owns_below HPP.out HB8.out) hkr (by omega)))
      have HO3 : Hid (ShsAt (((w8.setCell ⟨w.heap.size + 1, 0, none⟩ (.int .i8 (n : Int))).setCell ⟨w.heap.size + 1, 1, none⟩ (.slice va S.M.length vc)).setCell ⟨w.heap.size + 1, 2, none⟩ (.slice (some ⟨g8, 0, none⟩) q q)) g8 0 L) := Lib.hid (fun i hi => (hkr.cell (HZ8.out) (.inr (by omega))).trans (HS8.out i hi))
      have HO4 : Hid (g8 < (((w8.setCell ⟨w.heap.size + 1, 0, none⟩ (.int .i8 (n : Int))).setCell ⟨w.heap.size + 1, 1, none⟩ (.slice va S.M.length vc)).setCell ⟨w.heap.size + 1, 2, none⟩ (.slice (some ⟨g8, 0, none⟩) q q)).heap.size) := Lib.hid (Nat.lt_of_lt_of_le HZ8.out hkr.size)
      have HO5 : Hid (∀ j, (((w8.setCell ⟨w.heap.size + 1, 0, none⟩ (.int .i8 (n : Int))).setCell ⟨w.heap.size + 1, 1, none⟩ (.slice va S.M.length vc)).setCell ⟨w.heap.size + 1, 2, none⟩ (.slice (some ⟨g8, 0, none⟩) q q)).frozen? ⟨g8, j, none⟩ = false) := Lib.hid (fun j => (frozen_out_M hkr HZ8.out (by omega)).trans (HF8.out j))
      have S9 : NwAt (((w8.setCell ⟨w.heap.size + 1, 0, none⟩ (.int .i8 (n : Int))).setCell ⟨w.heap.size + 1, 1, none⟩ (.slice va S.M.length vc)).setCell ⟨w.heap.size + 1, 2, none⟩ (.slice (some ⟨g8, 0, none⟩) q q)) w.heap.size n (.slice (some ⟨b, 0, none⟩) j cb) (.slice (some ⟨k, 0, none⟩) q ck) ∧ (((w8.setCell ⟨w.heap.size + 1, 0, none⟩ (.int .i8 (n : Int))).setCell ⟨w.heap.size + 1, 1, none⟩ (.slice va S.M.length vc)).setCell ⟨w.heap.size + 1, 2, none⟩ (.slice (some ⟨g8, 0, none⟩) q q)).cell? ⟨Mp + 1, 2, none⟩ = some (.slice va S.M.length vc) ∧ (((w8.setCell ⟨w.heap.size + 1, 0, none⟩ (.int .i8 (n : Int))).setCell ⟨w.heap.size + 1, 1, none⟩ (.slice va S.M.length vc)).setCell ⟨w.heap.size + 1, 2, none⟩ (.slice (some ⟨g8, 0, none⟩) q q)).cell? ⟨Mp + 1 + 1, 0, none⟩ = some (.slice (some ⟨pg, 0, none⟩) j pc) :=
        ⟨⟨(hkr.cell (by omega) (.inl (Nat.lt_succ_self _))).trans hHeld.1.1, (hkr.cell (by omega) (.inl (Nat.lt_succ_self _))).trans hHeld.1.2.1, (hkr.cell (by omega) (.inl (Nat.lt_succ_self _))).trans hHeld.1.2.2⟩, (hkr.cell (Nat.lt_of_lt_of_le lO HB8.out.size) (.inr (by omega))).trans hHeld.2.1, (hkr.cell (Nat.lt_of_lt_of_le lO1 HB8.out.size) (.inr (by omega))).trans hHeld.2.2⟩
      clear hkr rs_
      refine wpAnyH_ready (rs := [10]) (by kernel_rfl) (by simp) ?_
      refine AllReadyH.cons rfl (fun K hK => ?_) AllReadyH.nil
      go_simp
      refine hK.out _ _ S9 (fun hHeld => ?_)
      clear hK K
      refine wpAnyH_ready (rs := [11]) (by kernel_rfl) (by simp) ?_
      refine AllReadyH.cons rfl (fun K hK => ?_) AllReadyH.nil
      go_simp
      refine hK.out _ _ hHeld (fun hHeld => ?_)
      clear hK K
      refine wpAnyH_done (by kernel_rfl) ?_ _
      refine ⟨rfl, ?_⟩
      clear hHeld r0 r1 r2 q0 q1 q2 S9
      go_wp2
      refine bodyPost_ret (v := .tuple #[.agg #[.int .i8 (n : Int), .slice va S.M.length vc, .slice (some ⟨g8, 0, none⟩) q q], .slice (some ⟨pg, 0, none⟩) j pc]) (results_cell_tmp rfl _ _ (w.heap.size + 1) 30 #[.int .i8 (n : Int), .slice va S.M.length vc, .slice (some ⟨g8, 0, none⟩) q q] (0, 0) _ _ rfl rfl HR3.out Try.underlying30 rfl (by kernel_rfl)) rfl ?_
      exact ⟨_, g8, _, rfl, owns_base_M HO1.out (by omega), owns_base_M HO2.out (by omega), ⟨HO3.out, HO4.out, HO5.out, by omega, fun e => by have e2 : pg = g8 := Option.some.inj e; have := HZ8.out; omega⟩, HBB.out⟩
end Go.Proofs.Ytdnjamlibnmpfaa
