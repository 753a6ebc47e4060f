/- NeedsOf, both sides. -/
import Derived.Test.YtcnmcgajkmcllaaNw0
import Derived.Test.YtcnmcgajkmcllaaBs
import Derived.Test.YtcnmcgajkmcllaaTr0
namespace Go.Proofs.Ytcnmcgajkmcllaa
open Go.ChangeShapes Go.WideShapes Go.ChangeAt Go.RowKit Go.Joins Go.Deep
set_option linter.unusedVariables false
set_option linter.unusedSimpArgs false
theorem TRow.congrN {w : World} {g n : Nat} {F G : Nat → Bool} (h : TRow w g n F) (e : ∀ k, k < n → F k = G k) : TRow w g n G :=
  ⟨h.lt, fun k hk => by rw [← e k hk]; exact h.at_ k hk, h.fz⟩
theorem TRow.put2N {w : World} {g n k : Nat} {F G : Nat → Bool} {x : Bool} (h : TRow w g n F) (hk : k < n) (hx : G k = x) (e : ∀ i, i < n → i ≠ k → F i = G i) : TRow (w.setCell ⟨g, k, none⟩ (.bool x)) g n G := by
  refine ⟨by simpa [World.setCell] using h.lt, fun i hi => ?_, fun i => by rw [World.frozen?_setCell]; exact h.fz i⟩
  by_cases ei : i = k
  · subst ei
    rw [hx]
    exact World.cell?_setCell_same _ _ _ (h.at_ i hi)
  · rw [World.cell?_setCell_other _ _ _ _ (by intro x; injection x with _ x2 _; exact ei x2.symm), h.at_ i hi, e i hi ei]
theorem TRow.drewNN {w : World} {g n : Nat} {F : Nat → Bool} (h : TRow w g n F) (m : Nat) : TRow (w.drewN m) g n F := ⟨h.lt, h.at_, h.fz⟩
theorem TRow.drewM {w : World} {g n : Nat} {F : Nat → Bool} (h : TRow w g n F) : TRow w.drew g n F := ⟨h.lt, h.at_, h.fz⟩
theorem brow_madeN {w : World} {n B : Nat} {e : TypeId} (h : w.ownsRow B e 1 (.slice (some ⟨B, 0, none⟩) n n) n (madeCells #[Value.bool false] n).toList) : TRow w B n (fun _ => false) := by
  refine ⟨(h.lt B rfl).2, fun j hj => ?_, fun j => h.frozenAt j⟩
  have h2 := h.cellAt j (by omega)
  rw [toList_madeCells_one] at h2
  rw [h2]
  simp [hj]
def BsPost (L : List Bool) (C : Int) (w : World) (e : Ending) (w' : World) : Prop := ∃ v, e = .returned (.tuple #[v, .int .i64 C]) ∧ SlWBs w.heap.size w'.heap.size w' L v ∧ Below w.heap.size w w'
theorem pair_nb {a c : List Bool} {b d : Int} (h : (a, b) = (c, d)) : a = c ∧ b = d := by injection h with h1 h2; exact ⟨h1, h2⟩

theorem slWUs_someN {lo hi : Nat} {w : World} {T : List Int} {va : Option Addr} {vc N : Nat} (h : SlWUs lo hi w T (.slice va N vc)) (h0 : 0 < T.length) : ∃ g o, va = some ⟨g, o, none⟩ ∧ UssAt w g o T ∧ g < w.heap.size ∧ T.length ≤ vc ∧ lo ≤ g := by
  generalize hv : Value.slice va N vc = v at h
  cases h with
  | empty _ _ h => rw [h] at h0; simp at h0
  | mk g o c h1 h2 h3 h4 h5 h6 => cases hv; exact ⟨_, _, rfl, h1, h4, h6, h2⟩
theorem uss_farN {w : World} {b o : Nat} {l : List Int} {p : Addr} {v : Value} (h : UssAt w b o l) (hp : p.block ≠ b) : UssAt (w.setCell p v) b o l :=
  fun i hi => (World.cell?_of_block (w := w) (Below.heap_setCell _ _ _ _ (Ne.symm hp))).trans (h i hi)
def pS (T : List Int) (n k i s : Nat) : Bool := if s < i then anB T n s (k + 1) else anB T n s k
theorem pS_at (T : List Int) (n k i : Nat) : pS T n k i i = anB T n i k := by rw [pS, if_neg (Nat.lt_irrefl i)]
theorem pS_to (T : List Int) (n k i : Nat) : pS T n k (i + 1) i = anB T n i (k + 1) := by rw [pS, if_pos (Nat.lt_succ_self i)]
theorem pS_next {T : List Int} {n k i s : Nat} (h : s ≠ i) : pS T n k i s = pS T n k (i + 1) s := by
  unfold pS
  by_cases h2 : s < i
  · rw [if_pos h2, if_pos (by omega)]
  · rw [if_neg h2, if_neg (by omega)]
theorem pS_zero (T : List Int) (n k s : Nat) : pS T n k 0 s = anB T n s k := by rw [pS, if_neg (Nat.not_lt_zero s)]
theorem pS_end {T : List Int} {n k s : Nat} (h : s < n) : pS T n k n s = anB T n s (k + 1) := by rw [pS, if_pos h]
def oS (V : Nat → Bool) (i : Nat) (x : Bool) (s : Nat) : Bool := if s < i then V s else if s = i then x else false
theorem oS_lt {V : Nat → Bool} {i s : Nat} {x : Bool} (h : s < i) : oS V i x s = V s := by rw [oS, if_pos h]
theorem oS_at (V : Nat → Bool) (i : Nat) (x : Bool) : oS V i x i = x := by rw [oS, if_neg (Nat.lt_irrefl i), if_pos rfl]
theorem oS_next {V : Nat → Bool} {i s : Nat} {x y : Bool} (h : s ≠ i) : oS V i x s = oS V i y s := by unfold oS; rw [if_neg h, if_neg h]
theorem oS_up (V : Nat → Bool) (i s : Nat) : oS V i (V i) s = oS V (i + 1) false s := by
  unfold oS
  by_cases h : s < i
  · rw [if_pos h, if_pos (by omega)]
  · by_cases h2 : s = i
    · subst h2; rw [if_neg h, if_pos rfl, if_pos (by omega)]
    · rw [if_neg h, if_neg h2, if_neg (by omega)]
      split <;> rfl
theorem oS_zero (V : Nat → Bool) (s : Nat) : false = oS V 0 false s := by
  unfold oS
  rw [if_neg (Nat.not_lt_zero s)]
  split <;> rfl
theorem info_boolW : (Try.prog.info? 4).map (fun i => (i.zero, i.size, i.bytes)) = some (some (.bool false), 1, 1) := by kernel_rfl
def needT (T : List Int) (n : Nat) : List Bool := (List.range n).map fun i => anB T n i T.length
theorem needT_length (T : List Int) (n : Nat) : (needT T n).length = n := by simp [needT]
theorem needT_get (T : List Int) (n i : Nat) (h : i < (needT T n).length) : (needT T n)[i] = anB T n i T.length := by simp [needT]
theorem brow_need {w : World} {lo g n : Nat} {T : List Int} (h : TRow w g n (fun s => anB T n s T.length)) (h1 : lo ≤ g) : SlWBs lo w.heap.size w (needT T n) (.slice (some ⟨g, 0, none⟩) n n) := by
  have h2 := SlWBs.mk (lo := lo) (hi := w.heap.size) (w := w) (l := needT T n) g 0 n (fun i hi => by
    have hi2 : i < n := by rw [needT_length] at hi; exact hi
    rw [needT_get, Nat.zero_add, h.at_ i hi2]) h1 h.lt h.lt h.fz (by rw [needT_length]; exact Nat.le_refl _)
  rwa [needT_length] at h2
def ndQ (R : Bool) (n : Nat) (l : List Nd) (p : List Int) : List Bool × Int := if R = true then (needT (pickT (tabsL n l []) p) n, 0) else ([], 1)
theorem ndQ_ok {R : Bool} {n : Nat} {l : List Nd} {p : List Int} {L : List Bool} {C : Int} (hn : R = true → n ≤ 6) (h : ndQ R n l p = (L, C)) : BssWf L ∧ L.length ≤ 1048576 := by
  cases R with
  | false => simp only [ndQ] at h; cases h; exact ⟨fun x hx => by simp at hx, by simp⟩
  | true =>
    rw [← (pair_nb (show (needT (pickT (tabsL n l []) p) n, (0 : Int)) = (L, C) from h)).1]
    have := hn rfl
    exact ⟨fun _ _ => rfl, by rw [needT_length]; omega⟩
set_option maxRecDepth 100000 in
set_option maxHeartbeats 4000000 in
theorem implNeedsOf_any (b k : Nat) (ni : Int) (l : List Nd) (p : List Int) (w : World) (h : NK w b k l p) (h8 : NdsWf l) (h9 : ShsWf p) (bw : i8 ni) (m0 : l.length ≤ 1048576) (m1 : p.length ≤ 1048576) (R : Bool) (hR : R = netOk ni l p) (L : List Bool) (C : Int) (hQ : ndQ R ni.toNat l p = (L, C)) :
    Calls Try.prog 20 #[.agg #[.int .i8 ni, .slice (some ⟨b, 0, none⟩) l.length l.length, .slice (some ⟨k, 0, none⟩) p.length p.length]] w (BsPost L C w) := by
  obtain ⟨W0, hW⟩ : ∃ W0, w.alloc (.cells #[.int .i8 ni, .slice (some ⟨b, 0, none⟩) l.length l.length, .slice (some ⟨k, 0, none⟩) p.length p.length] 30) = W0 := ⟨_, rfl⟩
  have k0 : Below w.heap.size w W0 := by rw [← hW]; exact kAlloc (Below.refl _ _) _
  have bX : W0.heap[w.heap.size]? = some (.cells #[.int .i8 ni, .slice (some ⟨b, 0, none⟩) l.length l.length, .slice (some ⟨k, 0, none⟩) p.length p.length] 30 (0, 0)) := by rw [← hW]; exact nNew _ _
  have lw := blk_lt bX
  have hnx := NwAt.of bX
  have hlx := hnx.lt
  have HX := Lib.hid (fun W2 (h2 : Below W0.heap.size W0 W2) => hnx.below h2 hlx)
  have HV := Lib.hid (fun W2 (h2 : Below W0.heap.size W0 W2) => implValidNetwork_any b k ni l p W2 (h.below (kTrans k0 h2)) h8 h9 bw m0 m1 R hR)
  have HK := Lib.hid (fun W2 (h2 : Below W0.heap.size W0 W2) => h.below (kTrans k0 h2))
  have HK0 := Lib.hid k0
  have HW := Lib.hid hW
  have hwz : w.heap.size < W0.heap.size := lw
  obtain ⟨x0, x1, x2⟩ := hnx
  cases R with
  | false =>
    obtain ⟨rfl, rfl⟩ := pair_nb (show (([] : List Bool), (1 : Int)) = (L, C) from hQ)
    clear hQ hR h8 h9 h hW bX HX HK
    go_enter Try.func20, Try.ntmps20
    go_upto_region 1 with fail
    try rw [HW.out]
    go_wp2_with fail
    refine (HV.out _ (Below.refl _ _)).mono ?_
    rintro e w1 ⟨rfl, hb1⟩
    have T1 := kTrans k0 hb1
    clear HV hb1 x0 x1 x2 HW
    go_wp2
    exact bodyPost_ret (v := .tuple #[.slice none 0 0, .int .i64 1]) (by simp [results, Try.results20, go_sem]) rfl ⟨_, rfl, .empty _ _ rfl, by repeat (first | with_reducible exact Below.refl _ _ | (with_reducible refine kSet ?_ ?hB _; case hB => (simp; try omega)) | with_reducible refine kAlloc ?_ _ | with_reducible refine Below.drew ?_ | with_reducible refine kDrewN ?_ _ | with_reducible refine kTrans ?_ (by assumption))⟩
  | true =>
    have hok := hR.symm
    have hnp := netOk_parts hok
    obtain ⟨n, rfl⟩ : ∃ n : Nat, ni = n := ⟨ni.toNat, by omega⟩
    have hn6 : 1 ≤ n ∧ n ≤ 6 := by omega
    rw [Int.toNat_natCast] at hQ
    have hp8 : p.length ≤ 8 := by omega
    obtain ⟨T, hT⟩ : ∃ T, pickT (tabsL n l []) p = T := ⟨_, rfl⟩
    have HO := Lib.hid (fun W2 (h2 : Below W0.heap.size W0 W2) => outputTables_any n b k l p W2 (HK.out W2 h2) hok T hT)
    have hTw : UssWf T := by rw [← hT]; exact pickT_wf (tabsL_wf n l [] (fun x hx => by simp at hx))
    have hTl : T.length = p.length := by rw [← hT]; exact pickT_length _ _
    have HTw := Lib.hid hTw
    have h1T : 1 ≤ T.length ∧ T.length ≤ 8 := by omega
    obtain ⟨rfl, rfl⟩ := pair_nb (show (needT T n, (0 : Int)) = (L, C) by rw [← hQ, ← hT]; rfl)
    obtain ⟨i0, hi0, hz0, hzz1, hzz2⟩ := info_parts info_boolW
    have Hi := Lib.hid hi0
    have Hz0 := Lib.hid hz0
    have Hz1 := Lib.hid hzz1
    have Hz2 := Lib.hid hzz2
    clear hQ hR h8 h9 h hW bX hok hnp HK hT hTw hi0 hz0 hzz1 hzz2
    go_enter Try.func20, Try.ntmps20
    go_upto_region 1 with fail
    try rw [HW.out]
    go_wp2_with fail
    refine (HV.out _ (Below.refl _ _)).mono ?_
    rintro e w1 ⟨rfl, hb1⟩
    clear x0 x1 x2 HV HW
    obtain ⟨x0, x1, x2⟩ := HX.out _ hb1
    have lx1 := Nat.lt_of_lt_of_le hlx hb1.size
    have HB1 := Lib.hid hb1
    clear hb1
    go_wp2_with (refine wpList_make_full _ rfl _ _ 37 rfl w1.heap.size 4 i0 _ 1 Try.underlying37 Hi.out Hz0.out Hz1.out _ _ _ _ n rfl rfl rfl rfl ?c1 ?c2 ?c3 ?_)
    case c1 => rw [Hz2.out]; omega
    case c2 => unfold maxLen; omega
    case c3 => exact Nat.le_refl _
    intro w2 hown hgr
    have HU2 := Lib.hid (brow_madeN hown)
    have hB2 : Below w1.heap.size w1 w2 := (Below.refl _ _).grown hgr (Nat.le_refl _) (by intro k hk; cases hk)
    have lgN := HU2.out.lt
    have hsW : W0.heap.size ≤ w1.heap.size := HB1.out.size
    clear hown hgr
    obtain ⟨g, hg⟩ : ∃ g, w1.heap.size = g := ⟨_, rfl⟩
    rw [hg] at HU2 lgN hsW ⊢
    have Hg := Lib.hid hsW
    have HB2 := Lib.hid (kTrans HB1.out hB2)
    clear x0 x1 x2 hg hB2 lx1 HB1
    have hgz2 : g < w2.heap.size := lgN
    obtain ⟨x0, x1, x2⟩ := HX.out _ HB2.out
    have lx2 := Nat.lt_of_lt_of_le hlx HB2.out.size
    go_wp2_with fail
    refine (HO.out _ HB2.out).mono ?_
    rintro e w3 ⟨v, rfl, hv, hb3⟩
    obtain ⟨va, vc, rfl⟩ := hv.form
    obtain ⟨gt, ot, rfl, hc, hgt, hle, hlo⟩ := slWUs_someN hv h1T.1
    have HU3 := Lib.hid (HU2.out.below hb3)
    have HC3 := Lib.hid hc
    have HB3 := Lib.hid (kTrans HB2.out hb3)
    have hgg : g < gt := by omega
    clear x0 x1 x2 lx2 HO HU2 HB2 hb3 hv hc
    clear hlo hgz2
    go_wp2
    go_loopw [6, 7, 17] (fun _ _ z wr => ∃ kk : Nat, kk ≤ p.length ∧ z = .int .i64 kk ∧ gt < wr.heap.size ∧ Hid (TRow wr g n (fun s => anB T n s kk)) ∧ Hid (UssAt wr gt ot T) ∧ Hid (Below W0.heap.size W0 wr)) (fun _ _ z _ => p.length - (intOf z).toNat)
    case atStart => exact ⟨0, by omega, rfl, hgt, HU3, HC3, HB3⟩
    case round =>
      clear HU3 HC3 HB3 hgt lgN
      obtain ⟨kk, hk, rfl, hgt, hU, hC, hb⟩ := hrel
      rename World => wr
      by_cases hlt : kk < p.length
      · have hkT : kk < T.length := by omega
        have ct := hC.out kk hkT
        obtain ⟨x, hx⟩ : ∃ x, T[kk] = x := ⟨_, rfl⟩
        have hxw := HTw.out _ (List.getElem_mem hkT)
        have hgD : T.getD kk 0 = x := by rw [List.getD_eq_getElem?_getD, List.getElem?_eq_getElem hkT, hx]; rfl
        rw [hx] at ct hxw
        have HGD := Lib.hid hgD
        have HXW := Lib.hid hxw
        have HU0 : Hid (TRow wr g n (pS T n kk 0)) := Lib.hid (hU.out.congrN fun s _ => (pS_zero T n kk s).symm)
        clear hx hgD hU hxw
        go_wp2
        go_loopw [7, 23] (fun _ z wr => ∃ i : Nat, i ≤ n ∧ z = .int .i64 i ∧ gt < wr.heap.size ∧ Hid (TRow wr g n (pS T n kk i)) ∧ Hid (UssAt wr gt ot T) ∧ Hid (Below W0.heap.size W0 wr)) (fun _ z _ => n - (intOf z).toNat)
        case atStart => exact ⟨0, by omega, rfl, hgt, HU0, hC, hb⟩
        case round =>
          clear HU0 hC hb hgt ct
          obtain ⟨i, hi, rfl, hgt, hU, hC, hb⟩ := hrel
          rename World => wr2
          by_cases hin : i < n
          · have cb := hU.out.at_ i hin
            rw [pS_at] at cb
            have fz := hU.out.fz i
            have gl := hU.out.lt
            have hi16 : IntKind.i16.wrap (i : Int) = i := IntWalk.i16_in _ (by omega)
            obtain ⟨x0, x1, x2⟩ := HX.out _ hb.out
            have lx := Nat.lt_of_lt_of_le hlx hb.out.size
            cases hbv : anB T n i kk with
            | true =>
              rw [hbv] at cb
              have HPUT := Lib.hid (hU.out.put2N (x := true) (G := pS T n kk (i + 1)) hin (by rw [pS_to, anB, hbv]; rfl) (fun s hs he => pS_next he))
              have HC2 := Lib.hid (uss_farN hC.out (p := ⟨g, i, none⟩) (v := .bool true) (show g ≠ gt by omega))
              have HB2 := Lib.hid (kSet hb.out (p := ⟨g, i, none⟩) Hg.out (.bool true))
              have hs2 : gt < (wr2.setCell ⟨g, i, none⟩ (.bool true)).heap.size := by simp [World.setCell]; omega
              clear hU hC hb hbv
              go_wp2
              exact ⟨⟨i + 1, by omega, by go_num, hs2, HPUT, HC2, HB2⟩, by simp [intOf]; omega⟩
            | false =>
              rw [hbv] at cb
              have HCW := Lib.hid (changesWith_any n i x (.slice (some ⟨b, 0, none⟩) l.length l.length) (.slice (some ⟨k, 0, none⟩) p.length p.length) wr2 HXW.out hn6 hin ⟨_, _, _, rfl⟩ ⟨_, _, _, rfl⟩)
              go_wp2_with fail
              refine (HCW.out).mono ?_
              rintro e w6 ⟨rfl, hb6⟩
              have hU6 := hU.out.below hb6
              have hC6 := hC.out.below hb6 hgt
              have hB6 := kTrans hb.out hb6
              have hz6 := hb6.size
              clear cb fz gl x0 x1 x2 lx
              have cb := hU6.at_ i hin
              rw [pS_at, hbv] at cb
              have fz := hU6.fz i
              have gl := hU6.lt
              obtain ⟨y, hy⟩ : ∃ y, chB n x i = y := ⟨_, rfl⟩
              have HPUT := Lib.hid (hU6.put2N (x := y) (G := pS T n kk (i + 1)) hin (by rw [pS_to, anB, hbv, HGD.out, hy]; rfl) (fun s hs he => pS_next he))
              have HC2 := Lib.hid (uss_farN hC6 (p := ⟨g, i, none⟩) (v := .bool y) (show g ≠ gt by omega))
              have HB2 := Lib.hid (kSet hB6 (p := ⟨g, i, none⟩) Hg.out (.bool y))
              have hs2 : gt < (w6.setCell ⟨g, i, none⟩ (.bool y)).heap.size := by simp [World.setCell]; omega
              rw [hy]
              clear hU hC hb hbv HCW hU6 hC6 hB6 hb6 hy
              go_wp2
              exact ⟨⟨i + 1, by omega, by go_num, hs2, HPUT, HC2, HB2⟩, by simp [intOf]; omega⟩
          · obtain rfl : i = n := by omega
            have HU3 : Hid (TRow wr2 g i (fun s => anB T i s (kk + 1))) := Lib.hid (hU.out.congrN fun s hs => pS_end hs)
            clear hU
            go_wp2
            exact ⟨⟨kk + 1, by omega, by go_num, hgt, HU3, hC, hb⟩, by simp [intOf]; omega⟩
      · obtain rfl : kk = p.length := by omega
        have HS := Lib.hid (brow_need (lo := w.heap.size) (hU.out.congrN fun s _ => by rw [hTl]) (by omega))
        have HT := Lib.hid (kTrans HK0.out hb.out)
        clear hU
        go_wp2
        exact bodyPost_ret (v := .tuple #[.slice (some ⟨g, 0, none⟩) n n, .int .i64 0]) (by simp [results, Try.results20, go_sem]) rfl ⟨_, rfl, HS.out, HT.out⟩

set_option maxRecDepth 100000 in
set_option maxHeartbeats 4000000 in
theorem specNeedsOf_any (b k : Nat) (ni : Int) (l : List Nd) (p : List Int) (w : World) (h : NK w b k l p) (h8 : NdsWf l) (h9 : ShsWf p) (bw : i8 ni) (m0 : l.length ≤ 1048576) (m1 : p.length ≤ 1048576) (R : Bool) (hR : R = netOk ni l p) (L : List Bool) (C : Int) (hQ : ndQ R ni.toNat l p = (L, C)) :
    Calls Try.prog 19 #[.agg #[.int .i8 ni, .slice (some ⟨b, 0, none⟩) l.length l.length, .slice (some ⟨k, 0, none⟩) p.length p.length]] w (BsPost L C w) := by
  obtain ⟨W0, hW⟩ : ∃ W0, w.alloc (.cells #[.int .i8 ni, .slice (some ⟨b, 0, none⟩) l.length l.length, .slice (some ⟨k, 0, none⟩) p.length p.length] 30) = W0 := ⟨_, rfl⟩
  have k0 : Below w.heap.size w W0 := by rw [← hW]; exact kAlloc (Below.refl _ _) _
  have bX : W0.heap[w.heap.size]? = some (.cells #[.int .i8 ni, .slice (some ⟨b, 0, none⟩) l.length l.length, .slice (some ⟨k, 0, none⟩) p.length p.length] 30 (0, 0)) := by rw [← hW]; exact nNew _ _
  have lw := blk_lt bX
  have hnx := NwAt.of bX
  have hlx := hnx.lt
  have HX := Lib.hid (fun W2 (h2 : Below W0.heap.size W0 W2) => hnx.below h2 hlx)
  have HV := Lib.hid (fun W2 (h2 : Below W0.heap.size W0 W2) => l04Ok_any w.heap.size b k ni l p W2 (hnx.below h2 hlx) (h.below (kTrans k0 h2)) h8 h9 bw m0 m1 R hR)
  have HK := Lib.hid (fun W2 (h2 : Below W0.heap.size W0 W2) => h.below (kTrans k0 h2))
  have HK0 := Lib.hid k0
  have HW := Lib.hid hW
  have hwz : w.heap.size < W0.heap.size := lw
  obtain ⟨x0, x1, x2⟩ := hnx
  cases R with
  | false =>
    obtain ⟨rfl, rfl⟩ := pair_nb (show (([] : List Bool), (1 : Int)) = (L, C) from hQ)
    clear hQ hR h8 h9 h hW bX HX HK
    go_enter Try.func19, Try.ntmps19
    go_upto_region 1 with fail
    try rw [HW.out]
    go_wp2_with fail
    refine (HV.out _ (Below.refl _ _)).mono ?_
    rintro e w1 ⟨rfl, hb1⟩
    have T1 := kTrans k0 hb1
    clear HV hb1 x0 x1 x2 HW
    go_wp2
    exact bodyPost_ret (v := .tuple #[.slice (some ⟨w1.heap.size, 0, none⟩) 0 0, .int .i64 1]) (by simp [results, Try.results19, go_sem]) rfl ⟨_, rfl, .empty _ _ rfl, by repeat (first | with_reducible exact Below.refl _ _ | (with_reducible refine kSet ?_ ?hB _; case hB => (simp; try omega)) | with_reducible refine kAlloc ?_ _ | with_reducible refine Below.drew ?_ | with_reducible refine kDrewN ?_ _ | with_reducible refine kTrans ?_ (by assumption))⟩
  | true =>
    have hok := hR.symm
    have hnp := netOk_parts hok
    obtain ⟨n, rfl⟩ : ∃ n : Nat, ni = n := ⟨ni.toNat, by omega⟩
    have hn6 : 1 ≤ n ∧ n ≤ 6 := by omega
    rw [Int.toNat_natCast] at hQ
    have hp8 : p.length ≤ 8 := by omega
    obtain ⟨T, hT⟩ : ∃ T, pickT (tabsL n l []) p = T := ⟨_, rfl⟩
    have HO := Lib.hid (fun W2 (h2 : Below W0.heap.size W0 W2) => l04Outputs_any n w.heap.size b k l p W2 (HX.out W2 h2) (HK.out W2 h2) hok T hT)
    have hTw : UssWf T := by rw [← hT]; exact pickT_wf (tabsL_wf n l [] (fun x hx => by simp at hx))
    have hTl : T.length = p.length := by rw [← hT]; exact pickT_length _ _
    have HTw := Lib.hid hTw
    have h1T : 1 ≤ T.length ∧ T.length ≤ 8 := by omega
    obtain ⟨rfl, rfl⟩ := pair_nb (show (needT T n, (0 : Int)) = (L, C) by rw [← hQ, ← hT]; rfl)
    obtain ⟨i0, hi0, hz0, hzz1, hzz2⟩ := info_parts info_boolW
    have Hi := Lib.hid hi0
    have Hz0 := Lib.hid hz0
    have Hz1 := Lib.hid hzz1
    have Hz2 := Lib.hid hzz2
    clear hQ hR h8 h9 h hW bX hok hnp HK hT hTw hi0 hz0 hzz1 hzz2
    go_enter Try.func19, Try.ntmps19
    go_upto_region 1 with fail
    try rw [HW.out]
    go_wp2_with fail
    refine (HV.out _ (Below.refl _ _)).mono ?_
    rintro e w1 ⟨rfl, hb1⟩
    clear x0 x1 x2 HV HW
    obtain ⟨x0, x1, x2⟩ := HX.out _ hb1
    have lx1 := Nat.lt_of_lt_of_le hlx hb1.size
    have HB1 := Lib.hid hb1
    clear hb1
    go_wp2_with fail
    refine (HO.out _ HB1.out).mono ?_
    rintro e w2 ⟨v, rfl, hv, hb2⟩
    obtain ⟨va, vc, rfl⟩ := hv.form
    obtain ⟨gt, ot, rfl, hc, hgt, hle, _⟩ := slUs_someN hv.sl h1T.1
    have HC2 := Lib.hid hc
    have HB2 := Lib.hid (kTrans HB1.out hb2)
    clear x0 x1 x2 lx1 HO HB1 hb2 hv hc
    obtain ⟨x0, x1, x2⟩ := HX.out _ HB2.out
    have lx2 := Nat.lt_of_lt_of_le hlx HB2.out.size
    go_wp2_with (refine wpList_make_full _ rfl _ _ 37 rfl w2.heap.size 4 i0 _ 1 Try.underlying37 Hi.out Hz0.out Hz1.out _ _ _ _ n rfl rfl rfl rfl ?c1 ?c2 ?c3 ?_)
    case c1 => rw [Hz2.out]; omega
    case c2 => unfold maxLen; omega
    case c3 => exact Nat.le_refl _
    intro w3 hown hgr
    have HU2 := Lib.hid (brow_madeN hown)
    have hB2 : Below w2.heap.size w2 w3 := (Below.refl _ _).grown hgr (Nat.le_refl _) (by intro k hk; cases hk)
    have lgN := HU2.out.lt
    have hsW : W0.heap.size ≤ w2.heap.size := HB2.out.size
    clear hown hgr
    obtain ⟨g, hg⟩ : ∃ g, w2.heap.size = g := ⟨_, rfl⟩
    rw [hg] at HU2 lgN hsW ⊢
    have Hg := Lib.hid hsW
    have HB3 := Lib.hid (kTrans HB2.out hB2)
    have HC3 := Lib.hid (HC2.out.below hB2 hgt)
    clear x0 x1 x2 lx2 HB2 HC2 hB2
    obtain ⟨x0, x1, x2⟩ := HX.out _ HB3.out
    have lx3 := Nat.lt_of_lt_of_le hlx HB3.out.size
    have hgg : gt < g := by omega
    clear hgt hg x0 x1 x2 lx3
    obtain ⟨N, hN⟩ : ∃ N, 2 ^ n = N := ⟨_, rfl⟩
    have HNR := Lib.hid (fun W => by have h := nRows_any n W hn6; rw [hN] at h; exact h)
    have HFL := Lib.hid (fun r i (hi : i < n) (hr : r < N) => flipN_at (r := r) (Nat.le_trans hn6.2 (Nat.le_refl _)) hi (by rw [hN]; exact hr))
    have hN64 : N ≤ 64 := by rw [← hN]; exact (pow6_le hn6).2
    have HNS := Lib.hid (fun s (hs : s < n) => by have h := need_same HTw.out hn6.2 hs; rw [hN] at h; exact h)
    have HNN := Lib.hid hN
    have HU0 : Hid (TRow w3 g n (oS (fun s => ddB T s N) 0 false)) := Lib.hid (HU2.out.congrN fun s _ => oS_zero _ s)
    clear hN HU2
    go_wp2
    go_loopw [6, 7, 8, 9] (fun z _ _ _ wr => ∃ i : Nat, i ≤ n ∧ z = .int .i64 i ∧ g < wr.heap.size ∧ Hid (TRow wr g n (oS (fun s => ddB T s N) i false)) ∧ Hid (UssAt wr gt ot T) ∧ Hid (Below W0.heap.size W0 wr)) (fun z _ _ _ _ => n - (intOf z).toNat)
    case atStart => exact ⟨0, by omega, rfl, lgN, HU0, HC3, HB3⟩
    case round =>
      clear HU0 HC3 HB3 lgN
      obtain ⟨i, hi, rfl, lgN, hU, hC, hb⟩ := hrel
      rename World => wr
      obtain ⟨x0, x1, x2⟩ := HX.out _ hb.out
      have lx := Nat.lt_of_lt_of_le hlx hb.out.size
      by_cases hin : i < n
      · have HU1 : Hid (TRow wr g n (oS (fun s => ddB T s N) i (ddB T i 0))) := Lib.hid hU.out
        have hiu : IntKind.u64.wrap (i : Int) = i := IntWalk.u64_in _ (by omega)
        have hi0 : (0 : Int) ≤ (i : Int) := by omega
        have hi1 : (i : Int) ≤ 64 := by omega
        clear hU
        go_wp2
        go_loopw [7, 8, 9] (fun z _ _ wr => ∃ r : Nat, r ≤ N ∧ z = .int .i64 r ∧ g < wr.heap.size ∧ Hid (TRow wr g n (oS (fun s => ddB T s N) i (ddB T i r))) ∧ Hid (UssAt wr gt ot T) ∧ Hid (Below W0.heap.size W0 wr)) (fun z _ _ _ => N - (intOf z).toNat)
        case atStart => exact ⟨0, by omega, rfl, lgN, HU1, hC, hb⟩
        case round =>
          clear HU1 hC hb lgN x0 x1 x2 lx
          obtain ⟨r, hr, rfl, lgN, hU, hC, hb⟩ := hrel
          rename World => wr2
          obtain ⟨x0, x1, x2⟩ := HX.out _ hb.out
          have lx := Nat.lt_of_lt_of_le hlx hb.out.size
          by_cases hrN : r < N
          · obtain ⟨f1, f2, f3, f4, f5⟩ := HFL.out r i hin hrN
            have HEE : Hid (∀ kk, eeB (ddB T i r) T i r (kk + 1) = (eeB (ddB T i r) T i r kk || dfB (T.getD kk 0) r (flipN r i))) := Lib.hid (fun _ => rfl)
            have HDD : Hid (ddB T i (r + 1) = eeB (ddB T i r) T i r T.length) := Lib.hid rfl
            have HU2 : Hid (TRow wr2 g n (oS (fun s => ddB T s N) i (eeB (ddB T i r) T i r 0))) := Lib.hid hU.out
            obtain ⟨z, hz⟩ : ∃ z, flipN r i = z := ⟨_, rfl⟩
            rw [HNN.out, hz] at f1
            rw [hz] at f2 HEE
            have hru : IntKind.u64.wrap (r : Int) = r := IntWalk.u64_in _ (by omega)
            have hr0 : (0 : Int) ≤ (r : Int) := by omega
            have hr1 : (r : Int) ≤ 64 := by omega
            have hzu : IntKind.u64.wrap (z : Int) = z := IntWalk.u64_in _ (by omega)
            have hz0 : (0 : Int) ≤ (z : Int) := by omega
            have hz1 : (z : Int) ≤ 64 := by omega
            clear f3 f4 f5 hz hU
            go_wp2_with fail
            refine (HNR.out _).mono ?_
            rintro e w5 ⟨rfl, rfl⟩
            go_wp2
            go_loopw [9] (fun z' wr => ∃ kk : Nat, kk ≤ p.length ∧ z' = .int .i64 kk ∧ g < wr.heap.size ∧ Hid (TRow wr g n (oS (fun s => ddB T s N) i (eeB (ddB T i r) T i r kk))) ∧ Hid (UssAt wr gt ot T) ∧ Hid (Below W0.heap.size W0 wr)) (fun z' _ => p.length - (intOf z').toNat)
            case atStart => exact ⟨0, by omega, rfl, lgN, HU2, hC, hb⟩
            case round =>
              clear HU2 hC hb lgN x0 x1 x2 lx
              obtain ⟨kk, hk, rfl, lgN, hU, hC, hb⟩ := hrel
              rename World => wr3
              by_cases hlt : kk < p.length
              · have hkT : kk < T.length := by omega
                have ct := hC.out kk hkT
                obtain ⟨x, hx⟩ : ∃ x, T[kk] = x := ⟨_, rfl⟩
                have hgD : T.getD kk 0 = x := by rw [List.getD_eq_getElem?_getD, List.getElem?_eq_getElem hkT, hx]; rfl
                rw [hx] at ct
                have hee := HEE.out kk
                rw [hgD] at hee
                have lgt : gt < wr3.heap.size := by omega
                go_upto_region 15 with fail
                go_region_held3 (fun w' => w'.cell? ⟨gt, ot + kk, none⟩ = some (.int .u64 x)) (go_keep) (fail)
                clear ct
                obtain ⟨wd, hwd⟩ : ∃ wd, wr3.drew = wd := ⟨_, rfl⟩
                have hUd : TRow wd g n (oS (fun s => ddB T s N) i (eeB (ddB T i r) T i r kk)) := by rw [← hwd]; exact hU.out.drewM
                have hCd : UssAt wd gt ot T := by rw [← hwd]; exact fun i hi => hC.out i hi
                have hbd : Below W0.heap.size W0 wd := by rw [← hwd]; exact kTrans hb.out (Below.drew (Below.refl _ _))
                have lgd : g < wd.heap.size := hUd.lt
                rw [hwd]
                clear hwd hU hC hb lgN
                have hU := Lib.hid hUd
                have hC := Lib.hid hCd
                have hb := Lib.hid hbd
                clear hUd hCd hbd
                have cb := hU.out.at_ i hin
                have fz := hU.out.fz i
                have gl := hU.out.lt
                rw [oS_at] at cb
                cases hd : dfB x r z with
                | true =>
                  have hd1 : (Go.bits .and .u64 (x / 2 ^ r) 1 != Go.bits .and .u64 (x / 2 ^ z) 1) = true := hd
                  rw [hd, Bool.or_true] at hee
                  have HPUT := Lib.hid (hU.out.put2N (x := true) (G := oS (fun s => ddB T s N) i (eeB (ddB T i r) T i r (kk + 1))) hin (by rw [oS_at, hee]) (fun s hs he => oS_next he))
                  have HC2 := Lib.hid (uss_farN hC.out (p := ⟨g, i, none⟩) (v := .bool true) (show g ≠ gt by omega))
                  have HB2 := Lib.hid (kSet hb.out (p := ⟨g, i, none⟩) Hg.out (.bool true))
                  have hs2 : g < (wd.setCell ⟨g, i, none⟩ (.bool true)).heap.size := by simp [World.setCell]; omega
                  clear hU hC hb hd hee hgD hx
                  go_wp2
                  exact ⟨⟨kk + 1, by omega, by go_num, hs2, HPUT, HC2, HB2⟩, by simp [intOf]; omega⟩
                | false =>
                  have hd1 : (Go.bits .and .u64 (x / 2 ^ r) 1 != Go.bits .and .u64 (x / 2 ^ z) 1) = false := hd
                  rw [hd, Bool.or_false] at hee
                  have HU4 : Hid (TRow wd g n (oS (fun s => ddB T s N) i (eeB (ddB T i r) T i r (kk + 1)))) := Lib.hid (by rw [hee]; exact hU.out)
                  clear hU hd hee hgD hx
                  go_wp2
                  exact ⟨⟨kk + 1, by omega, by go_num, lgd, HU4, hC, hb⟩, by simp [intOf]; omega⟩
              · obtain rfl : kk = p.length := by omega
                have HU4 : Hid (TRow wr3 g n (oS (fun s => ddB T s N) i (ddB T i (r + 1)))) := Lib.hid (by rw [HDD.out, hTl]; exact hU.out)
                clear hU
                go_wp2
                exact ⟨⟨r + 1, by omega, by go_num, lgN, HU4, hC, hb⟩, by simp [intOf]; omega⟩
          · obtain rfl : r = N := by omega
            have HU4 : Hid (TRow wr2 g n (oS (fun s => ddB T s r) (i + 1) false)) := Lib.hid (hU.out.congrN fun s _ => oS_up (fun s => ddB T s r) i s)
            clear hU
            go_wp2_with fail
            refine (HNR.out _).mono ?_
            rintro e w5 ⟨rfl, rfl⟩
            go_wp2
            exact ⟨⟨i + 1, by omega, by go_num, lgN, HU4, hC, hb⟩, by simp [intOf]; omega⟩
      · obtain rfl : i = n := by omega
        have HS := Lib.hid (brow_need (lo := w.heap.size) (T := T) (hU.out.congrN fun s hs => (oS_lt (V := fun s => ddB T s N) (x := false) hs).trans (HNS.out s hs)) (by omega))
        have HT := Lib.hid (kTrans HK0.out hb.out)
        clear hU
        go_wp2
        exact bodyPost_ret (v := .tuple #[.slice (some ⟨g, 0, none⟩) i i, .int .i64 0]) (by simp [results, Try.results19, go_sem]) rfl ⟨_, rfl, HS.out, HT.out⟩

end Go.Proofs.Ytcnmcgajkmcllaa
