/- MergeOf, both sides. -/
import Derived.Test.YtcnmcgajkmcllaaMg3
import Derived.Test.YtcnmcgajkmcllaaSi
namespace Go.Proofs.Ytcnmcgajkmcllaa
open Go.ChangeShapes Go.WideShapes Go.ChangeAt Go.RowKit Go.Joins Go.Deep
set_option linter.unusedVariables false
set_option linter.unusedSimpArgs false
theorem results_cell_tmp2M {P : Program} {fn : Func} {p q r : Tmp} {ty : TypeId} (h : fn.results = #[.cell p ty, .tmp q, .tmp r]) (tmps : Array Value) (w : World) (g : Nat) (t : TypeId) (cs : Array Value) (fr : Nat × Nat) (d : TypeDesc) (v u : Value)
    (hp : tmps.getD p undef = .pointer (some ⟨g, 0, none⟩)) (hq : tmps.getD q undef = v) (hr : tmps.getD r undef = u) (hg : w.heap[g]? = some (.cells cs t fr))
    (hu : P.underlying ty = some d) (hd : (match d with | .struct _ | .array _ _ => true | _ => false) = true) (hi : (P.info? ty).map (·.size) = some cs.size) :
    (results fn tmps).run P w = .ok (.tuple #[.agg cs, v, u]) w := by
  have hp' : tmps[p]?.getD undef = .pointer (some ⟨g, 0, none⟩) := by simpa using hp
  have hq' : tmps[q]?.getD undef = v := by simpa using hq
  have hr' : tmps[r]?.getD undef = u := by simpa using hr
  simp [results, h, hp', hq', hr', asAddr, run_loadVar_row w g t ty cs fr d hg hu hd hi]
theorem quint_M {a a' : Int} {l l' : List Nd} {p p' q q' : List Int} {c c' : Int} (h : (a, l, p, q, c) = (a', l', p', q', c')) : a = a' ∧ l = l' ∧ p = p' ∧ q = q' ∧ c = c' := by injection h with h1 h; injection h with h2 h; injection h with h3 h; injection h with h4 h5; exact ⟨h1, h2, h3, h4, h5⟩
/-- a network's slices within a window, in any order -/
structure NwO (lo hi : Nat) (w : World) (l : List Nd) (p : List Int) (v u : Value) : Prop where
  nd : SlWNd lo hi w l v
  sh : SlWSh lo hi w p u
theorem NwO.below {lo hi : Nat} {w w' : World} {l : List Nd} {p : List Int} {v u : Value} (h : NwO lo hi w l p v u) (g : Below w.heap.size w w') : NwO lo hi w' l p v u := ⟨h.nd.below g, h.sh.below g⟩
theorem NwO.out {lo hi lo2 hi2 : Nat} {w w' : World} {l : List Nd} {p : List Int} {v u : Value} (h : NwO lo hi w l p v u) (g : KeptOut lo2 hi2 w w') (ho : hi ≤ lo2 ∨ hi2 ≤ lo) : NwO lo hi w' l p v u := ⟨h.nd.out g ho, h.sh.out g ho⟩
theorem NwO.form {lo hi : Nat} {w : World} {l : List Nd} {p : List Int} {v u : Value} (h : NwO lo hi w l p v u) : ∃ va vc ua uc, v = .slice va l.length vc ∧ u = .slice ua p.length uc := by
  obtain ⟨va, vc, h1⟩ := h.nd.form
  obtain ⟨ua, uc, h2⟩ := h.sh.form
  exact ⟨va, vc, ua, uc, h1, h2⟩
theorem NwO.s1 {lo hi : Nat} {w : World} {l : List Nd} {p : List Int} {v u : Value} (h : NwO lo hi w l p v u) : SlNd w l v := h.nd.sl
theorem NwO.s2 {lo hi : Nat} {w : World} {l : List Nd} {p : List Int} {v u : Value} (h : NwO lo hi w l p v u) : SlSh w p u := h.sh.sl
structure LRow (w : World) (g n : Nat) (F : Nat → Int) : Prop where
  lt : g < w.heap.size
  at_ : ∀ k, k < n → w.cell? ⟨g, k, none⟩ = some (.int .i64 (F k))
  fz : ∀ j, w.frozen? ⟨g, j, none⟩ = false
theorem LRow.congr {w : World} {g n : Nat} {F G : Nat → Int} (h : LRow w g n F) (e : ∀ k, k < n → F k = G k) : LRow w g n G :=
  ⟨h.lt, fun k hk => by rw [← e k hk]; exact h.at_ k hk, h.fz⟩
theorem LRow.put2 {w : World} {g n k : Nat} {F G : Nat → Int} {x : Int} (h : LRow w g n F) (hk : k < n) (hx : G k = x) (e : ∀ i, i < n → i ≠ k → F i = G i) : LRow (w.setCell ⟨g, k, none⟩ (.int .i64 x)) g n G := by
  refine ⟨by simpa [World.setCell] using h.lt, fun i hi => ?_, fun i => by rw [World.frozen?_setCell]; exact h.fz i⟩
  by_cases ei : i = k
  · subst ei
    rw [hx]
    exact World.cell?_setCell_same _ _ _ (h.at_ i hi)
  · rw [World.cell?_setCell_other _ _ _ _ (by intro x; injection x with _ x2 _; exact ei x2.symm), h.at_ i hi, e i hi ei]
theorem lrow_made {w : World} {n B : Nat} {e : TypeId} (h : w.ownsRow B e 1 (.slice (some ⟨B, 0, none⟩) n n) n (madeCells #[Value.int .i64 0] n).toList) : LRow w B n (fun _ => 0) := by
  refine ⟨(h.lt B rfl).2, fun j hj => ?_, fun j => h.frozenAt j⟩
  have h2 := h.cellAt j (by omega)
  rw [toList_madeCells_one] at h2
  rw [h2]
  simp [hj]
theorem ifs_nextM {a : Int} {j s : Nat} (h : s ≠ j) : (if s < j then a else 0) = (if s < j + 1 then a else 0) := by
  by_cases h2 : s < j
  · rw [if_pos h2, if_pos (by omega)]
  · rw [if_neg h2, if_neg (by omega)]
theorem lrow_slw {w : World} {lo g N : Nat} {F : Nat → Int} {P : List Int} (h : LRow w g N F) (hN : P.length = N) (hF : ∀ s, s < N → F s = atP P s) (h1 : lo ≤ g) : SlWIn lo w.heap.size w P (.slice (some ⟨g, 0, none⟩) N N) := by
  subst hN
  exact .mk g 0 P.length (fun i hi => by rw [Nat.zero_add, h.at_ i hi, hF i hi]; unfold atP; rw [List.getD_eq_getElem?_getD, List.getElem?_eq_getElem hi]; rfl) h1 h.lt h.lt h.fz (Nat.le_refl _)
theorem nd_win {w : World} {base g : Nat} {e : TypeId} {v : Value} {n : Nat} {l : List Nd} (h : w.ownsRow base e 3 v n (flatNd l)) (hg : ∀ q, v.ownBlock = some q → q < g) : SlWNd base g w l v := by
  have hs := SlWNd.of_owns h
  cases hs with
  | empty a c h5 => exact .empty a c h5
  | mk b o c hc h1 h2 hb hf hl => exact .mk b o c hc h1 (hg b rfl) hb hf hl
theorem info_i64M : (Try.prog.info? 2).map (fun i => (i.zero, i.size, i.bytes)) = some (some (.int .i64 0), 1, 8) := by kernel_rfl
def MgPost (Nr : Int) (lr : List Nd) (pr ir : List Int) (C : Int) (w : World) (e : Ending) (w' : World) : Prop := ∃ v u y mid, e = .returned (.tuple #[.agg #[.int .i8 Nr, v, u], y, .int .i64 C]) ∧ NwR w.heap.size mid w' lr pr v u ∧ SlWIn mid w'.heap.size w' ir y ∧ w.heap.size ≤ mid ∧ mid ≤ w'.heap.size ∧ Below w.heap.size w w'
def MgPostS (Nr : Int) (lr : List Nd) (pr ir : List Int) (C : Int) (w : World) (e : Ending) (w' : World) : Prop := ∃ v u y, e = .returned (.tuple #[.agg #[.int .i8 Nr, v, u], y, .int .i64 C]) ∧ NwO w.heap.size w'.heap.size w' lr pr v u ∧ SlWIn w.heap.size w'.heap.size w' ir y ∧ Below w.heap.size w w'
def mgQ (R : Bool) (n : Nat) (l : List Nd) (p : List Int) : Int × List Nd × List Int × List Int × Int := if R = true then ((n : Int), (mgOf n l).M, pickP (atP (mgOf n l).P) p, (mgOf n l).P, 0) else (0, [], [], [], 1)
theorem merge_fine {l : List Nd} {p : List Int} {n : Nat} (hok : netOk n l p = true) : NdsWf (mgOf n l).M ∧ ShsWf (pickP (atP (mgOf n l).P) p) ∧ 1 ≤ (mgOf n l).P.length ∧ (mgOf n l).P.length ≤ 80 ∧ 1 ≤ (mgOf n l).M.length ∧ (mgOf n l).M.length ≤ 80 ∧ ∀ x ∈ (mgOf n l).P, 0 ≤ x ∧ x ≤ 32767 := by
  have h := merge_ok hok
  have hp := netOk_parts h
  have hp0 := netOk_parts hok
  have hi := merge_inv hok
  have hT : (tabsL n l []).length = l.length := by rw [tabsL_length]; simp
  refine ⟨fun x hx => ?_, fun x hx => ?_, by rw [hi.pl, hT]; omega, by rw [hi.pl, hT]; omega, by omega, by omega, fun x hx => ?_⟩
  · obtain ⟨i, hi, rfl⟩ := List.getElem_of_mem hx
    have hc := nodeOk_cases (netOk_node h i hi)
    have hm : IntKind.i8.min = -128 := rfl
    have hM : IntKind.i8.max = 127 := rfl
    exact ⟨by have := hc; simp [Lit.wf, hm, hM]; omega, wf_i16 (by omega), wf_i16 (by omega)⟩
  · have := outsOkN_all hp.2.2.2.2 x hx
    exact wf_i16 (by omega)
  · obtain ⟨i, hil, rfl⟩ := List.getElem_of_mem hx
    obtain ⟨k, hk1, hk2, -⟩ := hi.at_ i (by rw [← hi.pl]; exact hil)
    have h1 := hi.le
    rw [List.getD_eq_getElem?_getD, List.getElem?_eq_getElem hil] at hk2
    simp only [Option.getD_some] at hk2
    rw [hk2]
    omega
theorem mgQ_fine {R : Bool} {ni : Int} {l : List Nd} {p : List Int} {Nr : Int} {lr : List Nd} {pr ir : List Int} {C : Int} (hR : R = true → netOk ni l p = true) (hQ : mgQ R ni.toNat l p = (Nr, lr, pr, ir, C)) : NdsWf lr ∧ ShsWf pr ∧ lr.length ≤ 1048576 ∧ pr.length ≤ 1048576 ∧ InsWf ir ∧ ir.length ≤ 1048576 := by
  cases R with
  | false =>
    obtain ⟨-, rfl, rfl, rfl, -⟩ := quint_M (show ((0 : Int), ([] : List Nd), ([] : List Int), ([] : List Int), (1 : Int)) = (Nr, lr, pr, ir, C) from hQ)
    exact ⟨fun x hx => by simp at hx, fun x hx => by simp at hx, by simp, by simp, fun x hx => by simp at hx, by simp⟩
  | true =>
    have hok := hR rfl
    have hnp := netOk_parts hok
    obtain ⟨n, rfl⟩ : ∃ n : Nat, ni = n := ⟨ni.toNat, by omega⟩
    rw [Int.toNat_natCast] at hQ
    obtain ⟨-, rfl, rfl, rfl, -⟩ := quint_M (show ((n : Int), (mgOf n l).M, pickP (atP (mgOf n l).P) p, (mgOf n l).P, (0 : Int)) = (Nr, lr, pr, ir, C) from hQ)
    obtain ⟨h1, h2, h3, h4, h5, h6, h7⟩ := merge_fine hok
    refine ⟨h1, h2, by omega, by rw [pickP_length]; omega, fun x hx => ?_, by omega⟩
    have hx := h7 x hx
    have hm : IntKind.i64.min = -9223372036854775808 := rfl
    have hM : IntKind.i64.max = 9223372036854775807 := rfl
    simp [Lit.wf, hm, hM]
    omega
set_option maxRecDepth 100000 in
set_option maxHeartbeats 4000000 in
theorem implMergeOf_any (b k : Nat) (ni : Int) (l : List Nd) (p : List Int) (w : World) (h : NK w b k l p) (h8 : NdsWf l) (h9 : ShsWf p) (bw : i8 ni) (m0 : l.length ≤ 1048576) (m1 : p.length ≤ 1048576) (R : Bool) (hR : R = netOk ni l p) (Nr : Int) (lr : List Nd) (pr ir : List Int) (C : Int) (hQ : mgQ R ni.toNat l p = (Nr, lr, pr, ir, C)) :
    Calls Try.prog 25 #[.agg #[.int .i8 ni, .slice (some ⟨b, 0, none⟩) l.length l.length, .slice (some ⟨k, 0, none⟩) p.length p.length]] w (MgPost Nr lr pr ir C w) := by
  obtain ⟨W0, hW⟩ : ∃ W0, (w.alloc (.cells #[.int .i8 ni, .slice (some ⟨b, 0, none⟩) l.length l.length, .slice (some ⟨k, 0, none⟩) p.length p.length] 30)).alloc (.cells #[.int .i8 0, .slice none 0 0, .slice none 0 0] 30) = W0 := ⟨_, rfl⟩
  have k0 : Below w.heap.size w W0 := by rw [← hW]; exact kAlloc (kAlloc (Below.refl _ _) _) _
  have bX : W0.heap[w.heap.size]? = some (.cells #[.int .i8 ni, .slice (some ⟨b, 0, none⟩) l.length l.length, .slice (some ⟨k, 0, none⟩) p.length p.length] 30 (0, 0)) := by rw [← hW]; exact (Below.heap_alloc _ _ _ (by simp)).trans (heap_alloc_new _ _)
  have bR : W0.heap[w.heap.size + 1]? = some (.cells #[.int .i8 0, .slice none 0 0, .slice none 0 0] 30 (0, 0)) := by rw [← hW]; exact heap_two _ _ _
  have lw := blk_lt bR
  have hnx := NwAt.of bX
  have hlx := hnx.lt
  have HX := Lib.hid (fun W2 (h2 : Below W0.heap.size W0 W2) => hnx.below h2 hlx)
  have HBR := Lib.hid (fun W2 (h2 : Below W0.heap.size W0 W2) => blk_below bR h2)
  have HV := Lib.hid (fun W2 (h2 : Below W0.heap.size W0 W2) => implValidNetwork_any b k ni l p W2 (h.below (kTrans k0 h2)) h8 h9 bw m0 m1 R hR)
  have HK := Lib.hid (fun W2 (h2 : Below W0.heap.size W0 W2) => h.below (kTrans k0 h2))
  have HK0 := Lib.hid k0
  have HW := Lib.hid hW
  obtain ⟨x0, x1, x2⟩ := hnx
  cases R with
  | false =>
    obtain ⟨rfl, rfl, rfl, rfl, rfl⟩ := quint_M (show ((0 : Int), ([] : List Nd), ([] : List Int), ([] : List Int), (1 : Int)) = (Nr, lr, pr, ir, C) from hQ)
    clear hQ hR h8 h9 h hW bX bR HX HK
    go_enter Try.func25, Try.ntmps25
    go_upto_region 1 with fail
    try rw [HW.out]
    go_wp2_with fail
    refine (HV.out _ (Below.refl _ _)).mono ?_
    rintro e w1 ⟨rfl, hb1⟩
    have rs_ := HBR.out _ hb1
    have HT := Lib.hid (kTrans HK0.out hb1)
    have hz : w.heap.size ≤ (w1.setRow (w.heap.size + 1) #[.int .i8 0, .slice none 0 0, .slice none 0 0]).heap.size := by have := hb1.size; simp; omega
    clear x0 x1 x2 HV HBR hb1 HW
    go_wp2_with (refine wpList_store_row rfl 30 _ _ rfl (w.heap.size + 1) #[.int .i8 0, .slice none 0 0, .slice none 0 0] rfl rfl 30 _ rs_ (by kernel_rfl) (by kernel_rfl) (by kernel_rfl) ?_)
    refine bodyPost_ret (v := .tuple #[.agg #[.int .i8 0, .slice none 0 0, .slice none 0 0], .slice none 0 0, .int .i64 1]) (results_cell_tmp2M rfl _ _ (w.heap.size + 1) 30 #[.int .i8 0, .slice none 0 0, .slice none 0 0] (0, 0) _ _ _ rfl rfl rfl (setRow_heap _ _ _ _ _ _ rs_) Try.underlying30 rfl (by kernel_rfl)) rfl ?_
    exact ⟨_, _, _, w.heap.size, rfl, nwr_nil (Nat.le_refl _), .empty _ _ rfl, Nat.le_refl _, hz, kRowW HT.out (by omega) _⟩
  | true =>
    have hok := hR.symm
    have hnp := netOk_parts hok
    obtain ⟨n, rfl⟩ : ∃ n : Nat, ni = n := ⟨ni.toNat, by omega⟩
    rw [Int.toNat_natCast] at hQ
    obtain ⟨G, hG⟩ : ∃ G, mgOf n l = G := ⟨_, rfl⟩
    obtain ⟨L, hL⟩ : ∃ L, pickP (atP G.P) p = L := ⟨_, rfl⟩
    obtain ⟨rfl, rfl, rfl, rfl, rfl⟩ := quint_M (show ((n : Int), G.M, L, G.P, (0 : Int)) = (Nr, lr, pr, ir, C) by rw [← hQ, ← hL, ← hG]; rfl)
    have HC := Lib.hid (fun W2 (h2 : Below W0.heap.size W0 W2) => merged_lt b k n l.length p.length l p W2 (HK.out W2 h2) hok G hG L hL)
    have hgf := merge_fine hok
    rw [hG, hL] at hgf
    have hGP : 1 ≤ G.P.length ∧ G.P.length ≤ 80 := ⟨hgf.2.2.1, hgf.2.2.2.1⟩
    have HPB := Lib.hid hgf.2.2.2.2.2.2
    have hGM : 1 ≤ G.M.length ∧ G.M.length ≤ 80 := ⟨hgf.2.2.2.2.1, hgf.2.2.2.2.2.1⟩
    clear hQ hR h8 h9 h hW bX bR hok hnp HK hG hL hgf
    go_enter Try.func25, Try.ntmps25
    go_upto_region 1 with fail
    try rw [HW.out]
    go_wp2_with fail
    refine (HV.out _ (Below.refl _ _)).mono ?_
    rintro e w1 ⟨rfl, hb1⟩
    clear x0 x1 x2 HV HW
    obtain ⟨x0, x1, x2⟩ := HX.out _ hb1
    have lx1 := Nat.lt_of_lt_of_le hlx hb1.size
    have HC1 := Lib.hid (HC.out _ hb1)
    clear HC
    go_wp2_with fail
    refine (HC1.out).mono ?_
    rintro e w2 ⟨v, g, pl, rfl, hv, hpl, ⟨hsh, hgl, hgf, hgw, -, hvg⟩, hb2⟩
    obtain ⟨va, vc, rfl⟩ := owns_slice hv
    obtain ⟨pg, pc, rfl, -, HSp, hpb, hpc⟩ := row_sh hpl (by omega)
    obtain ⟨i0, hi0, hz0, hzz1, hzz2⟩ := info_parts info_i64M
    have Hi := Lib.hid hi0
    have Hz0 := Lib.hid hz0
    have Hz1 := Lib.hid hzz1
    have Hz2 := Lib.hid hzz2
    have HNW := Lib.hid (show NwR w1.heap.size (g + 1) w2 G.M L (.slice va G.M.length vc) (.slice (some ⟨g, 0, none⟩) L.length L.length) from .mk g _ _ hgw (Nat.le_succ g) (nd_win hv hvg) (.mk g 0 L.length hsh (Nat.le_refl _) (Nat.lt_succ_self _) hgl hgf (Nat.le_refl _)))
    obtain ⟨W2, hW2⟩ : ∃ W2, w2.alloc (.cells #[.int .i8 (n : Int), .slice va G.M.length vc, .slice (some ⟨g, 0, none⟩) L.length L.length] 30) = W2 := ⟨_, rfl⟩
    have k2 : Below w2.heap.size w2 W2 := by rw [← hW2]; exact kAlloc (Below.refl _ _) _
    have bM : W2.heap[w2.heap.size]? = some (.cells #[.int .i8 (n : Int), .slice va G.M.length vc, .slice (some ⟨g, 0, none⟩) L.length L.length] 30 (0, 0)) := by rw [← hW2]; exact nNew _ _
    have HSp2 := Lib.hid (HSp.below k2)
    have HNW2 := Lib.hid (HNW.out.below k2)
    have HB2 := Lib.hid (kTrans (kTrans hb1 hb2) k2)
    have hpgl : pg < w2.heap.size := HSp.lt
    have lM := blk_lt bM
    have HW2 := Lib.hid hW2
    have hsz1 := hb1.size
    have hsz2 := hb2.size
    clear hv hpl hsh hgf hvg HSp HNW hb1 hb2 k2 hW2 x0 x1 x2 HC1 hi0 hz0 hzz1 hzz2 HX
    obtain ⟨N, hN⟩ : ∃ N, G.P.length = N := ⟨_, rfl⟩
    have HN := Lib.hid hN
    rw [hN] at hGP HSp2 hpc ⊢
    clear hN
    go_wp2_with (rw [HW2.out]; refine wpList_make_full _ rfl _ _ 42 rfl W2.heap.size 2 i0 _ 1 Try.underlying42 Hi.out Hz0.out Hz1.out _ _ _ _ N rfl rfl rfl rfl ?c1 ?c2 ?c3 ?_)
    case c1 => rw [Hz2.out]; omega
    case c2 => unfold maxLen; omega
    case c3 => exact Nat.le_refl _
    intro w3 hown hgr
    have HL3 := Lib.hid (lrow_made hown)
    have hB3 : Below W2.heap.size W2 w3 := (Below.refl _ _).grown hgr (Nat.le_refl _) (by intro k hk; cases hk)
    have hgl2 : g < W2.heap.size := by omega
    have hpg2 : pg < W2.heap.size := by omega
    have hw0 : w.heap.size + 2 ≤ w1.heap.size := by omega
    have hw12 : w1.heap.size ≤ W2.heap.size := by omega
    have HL4 : Hid (LRow w3 W2.heap.size N (fun s => if s < 0 then atP G.P s else 0)) := Lib.hid (HL3.out.congr fun s _ => (if_neg (Nat.not_lt_zero s)).symm)
    have HB3 := Lib.hid hB3
    have HBM := Lib.hid bM
    clear hown hgr hB3 HL3 bM HW2
    go_wp2
    go_loopw [8, 9, 24] (fun _ _ z wr => ∃ j : Nat, j ≤ N ∧ z = .int .i64 j ∧ Hid (LRow wr W2.heap.size N (fun s => if s < j then atP G.P s else 0)) ∧ Hid (Below W2.heap.size W2 wr)) (fun _ _ z _ => N - (intOf z).toNat)
    case atStart => exact ⟨0, by omega, rfl, HL4, HB3⟩
    case round =>
      clear HL4 HB3
      obtain ⟨j, hj, rfl, hL, hb⟩ := hrel
      rename World => wr
      by_cases hlt : j < N
      · have hS := HSp2.out.below hb.out
        have cx := hS.at_ j hlt
        have lp := hS.lt
        have hjP : j < G.P.length := by rw [HN.out]; exact hlt
        have hxb : 0 ≤ atP G.P j ∧ atP G.P j ≤ 32767 := by
          have h := HPB.out _ (List.getElem_mem hjP)
          have e : atP G.P j = G.P[j] := by unfold atP; rw [List.getD_eq_getElem?_getD, List.getElem?_eq_getElem hjP]; rfl
          rw [e]; exact h
        have cb := hL.out.at_ j hlt
        rw [if_neg (Nat.lt_irrefl j)] at cb
        have fz := hL.out.fz j
        have gl := hL.out.lt
        obtain ⟨x, hx⟩ : ∃ x, atP G.P j = x := ⟨_, rfl⟩
        rw [hx] at cx hxb
        have hx64 : IntKind.i64.wrap x = x := IntWalk.i64_in _ (by omega)
        have HPUT := Lib.hid (hL.out.put2 (x := x) (G := fun s => if s < j + 1 then atP G.P s else 0) hlt (by rw [if_pos (Nat.lt_succ_self j), hx]) (fun s hs he => ifs_nextM he))
        have HB4 := Lib.hid (kSet hb.out (p := ⟨W2.heap.size, j, none⟩) (Nat.le_refl _) (.int .i64 x))
        clear hS hL hb hx hjP
        go_wp2
        exact ⟨⟨j + 1, by omega, by go_num, HPUT, HB4⟩, by simp [intOf]; omega⟩
      · obtain rfl : j = N := by omega
        obtain ⟨z0, z1, z2⟩ := NwAt.of (blk_below HBM.out hb.out)
        have lz := blk_lt (blk_below HBM.out hb.out)
        have rs_ := HBR.out _ (kTrans HB2.out hb.out)
        have HT := Lib.hid (kTrans HK0.out (kTrans HB2.out hb.out))
        have kr := keptRowN (g := w.heap.size + 1) (w := wr) (cs := #[.int .i8 (n : Int), .slice va G.M.length vc, .slice (some ⟨g, 0, none⟩) L.length L.length])
        have hwz := hb.out.size
        have hkz := kr.size
        have HN1 := Lib.hid (((HNW2.out.below hb.out).out kr (.inr (by omega))).mono (show w.heap.size ≤ w1.heap.size by omega) (Nat.le_refl (g + 1)))
        have HN3 := Lib.hid (((lrow_slw (lo := g + 1) hL.out HN.out (fun s hs => if_pos hs) hgl2).out kr (.inr (by omega))).mono (Nat.le_refl _) hkz)
        have hgz : g + 1 ≤ (wr.setRow (w.heap.size + 1) #[.int .i8 (n : Int), .slice va G.M.length vc, .slice (some ⟨g, 0, none⟩) L.length L.length]).heap.size := by omega
        clear hL hb kr hkz
        go_wp2_with (refine wpList_store_row rfl 30 _ _ rfl (w.heap.size + 1) #[.int .i8 (n : Int), .slice va G.M.length vc, .slice (some ⟨g, 0, none⟩) L.length L.length] rfl rfl 30 _ rs_ (by kernel_rfl) (by kernel_rfl) (by kernel_rfl) ?_)
        refine bodyPost_ret (v := .tuple #[.agg #[.int .i8 (n : Int), .slice va G.M.length vc, .slice (some ⟨g, 0, none⟩) L.length L.length], .slice (some ⟨W2.heap.size, 0, none⟩) j j, .int .i64 0]) (results_cell_tmp2M rfl _ _ (w.heap.size + 1) 30 #[.int .i8 (n : Int), .slice va G.M.length vc, .slice (some ⟨g, 0, none⟩) L.length L.length] (0, 0) _ _ _ rfl rfl rfl (setRow_heap _ _ _ _ _ _ rs_) Try.underlying30 rfl (by kernel_rfl)) rfl ?_
        exact ⟨_, _, _, g + 1, rfl, HN1.out, HN3.out, by omega, hgz, kRowW HT.out (by omega) _⟩
set_option maxRecDepth 100000 in
set_option maxHeartbeats 4000000 in
theorem specMergeOf_any (b k : Nat) (ni : Int) (l : List Nd) (p : List Int) (w : World) (h : NK w b k l p) (h8 : NdsWf l) (h9 : ShsWf p) (bw : i8 ni) (m0 : l.length ≤ 1048576) (m1 : p.length ≤ 1048576) (R : Bool) (hR : R = netOk ni l p) (Nr : Int) (lr : List Nd) (pr ir : List Int) (C : Int) (hQ : mgQ R ni.toNat l p = (Nr, lr, pr, ir, C)) :
    Calls Try.prog 24 #[.agg #[.int .i8 ni, .slice (some ⟨b, 0, none⟩) l.length l.length, .slice (some ⟨k, 0, none⟩) p.length p.length]] w (MgPostS Nr lr pr ir C w) := by
  obtain ⟨W0, hW⟩ : ∃ W0, (w.alloc (.cells #[.int .i8 ni, .slice (some ⟨b, 0, none⟩) l.length l.length, .slice (some ⟨k, 0, none⟩) p.length p.length] 30)).alloc (.cells #[.int .i8 0, .slice none 0 0, .slice none 0 0] 30) = W0 := ⟨_, rfl⟩
  have k0 : Below w.heap.size w W0 := by rw [← hW]; exact kAlloc (kAlloc (Below.refl _ _) _) _
  have bX : W0.heap[w.heap.size]? = some (.cells #[.int .i8 ni, .slice (some ⟨b, 0, none⟩) l.length l.length, .slice (some ⟨k, 0, none⟩) p.length p.length] 30 (0, 0)) := by rw [← hW]; exact (Below.heap_alloc _ _ _ (by simp)).trans (heap_alloc_new _ _)
  have bR : W0.heap[w.heap.size + 1]? = some (.cells #[.int .i8 0, .slice none 0 0, .slice none 0 0] 30 (0, 0)) := by rw [← hW]; exact heap_two _ _ _
  have lw := blk_lt bR
  have hnx := NwAt.of bX
  have hlx := hnx.lt
  have HX := Lib.hid (fun W2 (h2 : Below W0.heap.size W0 W2) => hnx.below h2 hlx)
  have HBR := Lib.hid (fun W2 (h2 : Below W0.heap.size W0 W2) => blk_below bR h2)
  have HV := Lib.hid (fun W2 (h2 : Below W0.heap.size W0 W2) => l04Ok_any w.heap.size b k ni l p W2 (hnx.below h2 hlx) (h.below (kTrans k0 h2)) h8 h9 bw m0 m1 R hR)
  have HK := Lib.hid (fun W2 (h2 : Below W0.heap.size W0 W2) => h.below (kTrans k0 h2))
  have HK0 := Lib.hid k0
  have HW := Lib.hid hW
  obtain ⟨x0, x1, x2⟩ := hnx
  cases R with
  | false =>
    obtain ⟨rfl, rfl, rfl, rfl, rfl⟩ := quint_M (show ((0 : Int), ([] : List Nd), ([] : List Int), ([] : List Int), (1 : Int)) = (Nr, lr, pr, ir, C) from hQ)
    clear hQ hR h8 h9 h hW bX bR HX HK
    go_enter Try.func24, Try.ntmps24
    go_upto_region 1 with fail
    try rw [HW.out]
    go_wp2_with fail
    refine (HV.out _ (Below.refl _ _)).mono ?_
    rintro e w1 ⟨rfl, hb1⟩
    have hb1a : Below W0.heap.size W0 (w1.alloc (.cells #[] 2)) := kTrans hb1 (kAlloc (Below.refl _ _) _)
    have rs_ := HBR.out _ hb1a
    have HT := Lib.hid (kTrans HK0.out hb1a)
    have hz : w.heap.size ≤ ((w1.alloc (.cells #[] 2)).setRow (w.heap.size + 1) #[.int .i8 0, .slice none 0 0, .slice none 0 0]).heap.size := by have := hb1a.size; simp at *; omega
    clear hb1a
    clear x0 x1 x2 HV HBR hb1 HW
    go_wp2_with (refine wpList_store_row rfl 30 _ _ rfl (w.heap.size + 1) #[.int .i8 0, .slice none 0 0, .slice none 0 0] rfl rfl 30 _ rs_ (by kernel_rfl) (by kernel_rfl) (by kernel_rfl) ?_)
    refine bodyPost_ret (v := .tuple #[.agg #[.int .i8 0, .slice none 0 0, .slice none 0 0], .slice (some ⟨w1.heap.size, 0, none⟩) 0 0, .int .i64 1]) (results_cell_tmp2M rfl _ _ (w.heap.size + 1) 30 #[.int .i8 0, .slice none 0 0, .slice none 0 0] (0, 0) _ _ _ rfl rfl rfl (setRow_heap _ _ _ _ _ _ rs_) Try.underlying30 rfl (by kernel_rfl)) rfl ?_
    exact ⟨_, _, _, rfl, ⟨.empty _ _ rfl, .empty _ _ rfl⟩, .empty _ _ rfl, kRowW HT.out (by omega) _⟩
  | true =>
    have hok := hR.symm
    have hnp := netOk_parts hok
    obtain ⟨n, rfl⟩ : ∃ n : Nat, ni = n := ⟨ni.toNat, by omega⟩
    rw [Int.toNat_natCast] at hQ
    obtain ⟨G, hG⟩ : ∃ G, mgOf n l = G := ⟨_, rfl⟩
    obtain ⟨L, hL⟩ : ∃ L, pickP (atP G.P) p = L := ⟨_, rfl⟩
    obtain ⟨rfl, rfl, rfl, rfl, rfl⟩ := quint_M (show ((n : Int), G.M, L, G.P, (0 : Int)) = (Nr, lr, pr, ir, C) by rw [← hQ, ← hL, ← hG]; rfl)
    have HC := Lib.hid (fun W2 (h2 : Below W0.heap.size W0 W2) => by have h := l04Merge_any n w.heap.size b k l p W2 (HX.out W2 h2) (HK.out W2 h2) hok G hG; rw [hL] at h; exact h)
    have hgf := merge_fine hok
    rw [hG, hL] at hgf
    have hGP : 1 ≤ G.P.length ∧ G.P.length ≤ 80 := ⟨hgf.2.2.1, hgf.2.2.2.1⟩
    have HPB := Lib.hid hgf.2.2.2.2.2.2
    have hGM : 1 ≤ G.M.length ∧ G.M.length ≤ 80 := ⟨hgf.2.2.2.2.1, hgf.2.2.2.2.2.1⟩
    clear hQ hR h8 h9 h hW bX bR hok hnp HK hG hL hgf
    go_enter Try.func24, Try.ntmps24
    go_upto_region 1 with fail
    try rw [HW.out]
    go_wp2_with fail
    refine (HV.out _ (Below.refl _ _)).mono ?_
    rintro e w1 ⟨rfl, hb1⟩
    clear x0 x1 x2 HV HW
    obtain ⟨x0, x1, x2⟩ := HX.out _ hb1
    have lx1 := Nat.lt_of_lt_of_le hlx hb1.size
    have HC1 := Lib.hid (HC.out _ hb1)
    clear HC
    go_wp2_with fail
    refine (HC1.out).mono ?_
    rintro e w2 ⟨v, u, pl, rfl, ⟨hv, hu, hpl⟩, hb2⟩
    obtain ⟨va, vc, rfl⟩ := owns_slice hv
    obtain ⟨ua, uc, rfl⟩ := owns_slice hu
    obtain ⟨pa, pc, rfl⟩ := owns_slice hpl
    have hba : Below w2.heap.size w2 (w2.alloc (.cells #[.int .i8 (n : Int), .slice va G.M.length vc, .slice ua L.length uc] 30)) := kAlloc (Below.refl _ _) _
    have rs_ := HBR.out _ (kTrans (kTrans hb1 hb2) hba)
    have HT := Lib.hid (kTrans HK0.out (kTrans (kTrans hb1 hb2) hba))
    have lz := hb1.size
    have kr := keptRowN (g := w.heap.size + 1) (w := w2.alloc (.cells #[.int .i8 (n : Int), .slice va G.M.length vc, .slice ua L.length uc] 30)) (cs := #[.int .i8 (n : Int), .slice va G.M.length vc, .slice ua L.length uc])
    have hkz := Nat.le_trans hba.size kr.size
    have HN1 := Lib.hid ((((SlWNd.of_owns hv).below hba).out kr (.inr (by omega))).mono (show w.heap.size ≤ w1.heap.size by omega) hkz)
    have HN2 := Lib.hid ((((SlWSh.of_owns hu).below hba).out kr (.inr (by omega))).mono (show w.heap.size ≤ w1.heap.size by omega) hkz)
    have HN3 := Lib.hid ((((SlWIn.of_owns hpl).below hba).out kr (.inr (by omega))).mono (show w.heap.size ≤ w1.heap.size by omega) hkz)
    obtain ⟨z0, z1, z2⟩ := NwAt.of (show (w2.alloc (.cells #[.int .i8 (n : Int), .slice va G.M.length vc, .slice ua L.length uc] 30)).heap[w2.heap.size]? = some (.cells #[.int .i8 (n : Int), .slice va G.M.length vc, .slice ua L.length uc] 30 (0, 0)) from nNew _ _)
    clear x0 x1 x2 HBR hb1 hb2 HX HC1 hv hu hpl kr hba hkz
    go_wp2_with (refine wpList_store_row rfl 30 _ _ rfl (w.heap.size + 1) #[.int .i8 (n : Int), .slice va G.M.length vc, .slice ua L.length uc] rfl rfl 30 _ rs_ (by kernel_rfl) (by kernel_rfl) (by kernel_rfl) ?_)
    refine bodyPost_ret (v := .tuple #[.agg #[.int .i8 (n : Int), .slice va G.M.length vc, .slice ua L.length uc], .slice pa G.P.length pc, .int .i64 0]) (results_cell_tmp2M rfl _ _ (w.heap.size + 1) 30 #[.int .i8 (n : Int), .slice va G.M.length vc, .slice ua L.length uc] (0, 0) _ _ _ rfl rfl rfl (setRow_heap _ _ _ _ _ _ rs_) Try.underlying30 rfl (by kernel_rfl)) rfl ?_
    exact ⟨_, _, _, rfl, ⟨HN1.out, HN2.out⟩, HN3.out, kRowW HT.out (by omega) _⟩
end Go.Proofs.Ytcnmcgajkmcllaa
