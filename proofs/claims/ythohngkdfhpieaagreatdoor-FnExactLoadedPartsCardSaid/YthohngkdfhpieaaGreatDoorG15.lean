/- Several texts in one: Iw, Lq, Lr3. -/
import Derived.Test.YthohngkdfhpieaaGreatDoorG11
import Derived.Test.YthohngkdfhpieaaGreatDoorIn
import Derived.Test.YthohngkdfhpieaaGreatDoorAn
import Derived.Test.YthohngkdfhpieaaGreatDoorTs
/- Indices of the falls that are as asked for: the program's closures. -/
namespace Go.Proofs.YthohngkdfhpieaaGreatDoor
open Go.ChangeShapes Go.WideShapes Go.ChangeAt Go.RowKit Go.Shelf
set_option linter.unusedVariables false
set_option linter.unusedSimpArgs false

/-- the indices, from i on, of what is so -/
def idxs (S : Fl → Bool) : List Fl → Int → List Int
  | [], _ => []
  | f :: l, i => if S f = true then i :: idxs S l (i + 1) else idxs S l (i + 1)
theorem idxs_length (S : Fl → Bool) : ∀ (l : List Fl) (i : Int), (idxs S l i).length ≤ l.length
  | [], _ => Nat.le_refl _
  | f :: l, i => by
    have := idxs_length S l (i + 1)
    unfold idxs
    split <;> simp only [List.length_cons] <;> omega
theorem idxs_range (S : Fl → Bool) : ∀ (l : List Fl) (i : Int), ∀ x ∈ idxs S l i, i ≤ x ∧ x < i + l.length
  | [], _, x, h => by simp [idxs] at h
  | f :: l, i, x, h => by
    unfold idxs at h
    have ih := idxs_range S l (i + 1) x
    simp only [List.length_cons]
    split at h
    · rcases List.mem_cons.1 h with rfl | h
      · omega
      · have := ih h; omega
    · have := ih h; omega
theorem idxs_congr {S T : Fl → Bool} : ∀ {l : List Fl} {i : Int}, (∀ f ∈ l, S f = T f) → idxs S l i = idxs T l i
  | [], _, _ => rfl
  | f :: l, i, h => by
    unfold idxs
    rw [h f (List.mem_cons_self ..), idxs_congr (l := l) (i := i + 1) (fun g hg => h g (List.mem_cons_of_mem _ hg))]
theorem idxs_yes {S : Fl → Bool} {f : Fl} {l : List Fl} {i : Int} (h : S f = true) : idxs S (f :: l) i = i :: idxs S l (i + 1) := by rw [idxs, if_pos h]
theorem idxs_no {S : Fl → Bool} {f : Fl} {l : List Fl} {i : Int} (h : S f = false) : idxs S (f :: l) i = idxs S l (i + 1) := by rw [idxs, if_neg (by rw [h]; decide)]
theorem idxs_wf {S : Fl → Bool} {l : List Fl} (h : l.length ≤ 200) : InsWf (idxs S l 0) ∧ (idxs S l 0).length ≤ 1048576 := by
  refine ⟨fun x hx => ?_, by have := idxs_length S l 0; omega⟩
  have := idxs_range S l 0 x hx
  exact wf64' (by omega)
theorem runs_stay {lb : List Pc} {l : List Pu} {lr : List Fl} {R : Bool} (h : RunsTo R lb l lr) : ∀ f ∈ lr, (f.tick < 0 ↔ f = stay) := by
  intro f hf
  cases R with
  | false => rw [h.1 rfl] at hf; simp at hf
  | true =>
    obtain ⟨h1, h2⟩ := h.2 rfl
    obtain ⟨k, hk, rfl⟩ := List.mem_iff_getElem.1 hf
    have hb := h2 k (show k < lb.length by omega)
    have e : lr.getD k stay = lr[k] := by rw [List.getD_eq_getElem?_getD, List.getElem?_eq_getElem hk]; rfl
    constructor
    · intro ht
      have := (hb.1 (show (lr.getD k stay).tick < 0 by rw [e]; exact ht)).1
      exact e.symm.trans this
    · intro ht; rw [ht]; simp [stay]
def staysB (f : Fl) : Bool := decide (f.tick < 0)
def fallenB (t : Int) (f : Fl) : Bool := decide (0 ≤ f.tick ∧ f.tick ≤ t)
def fallsB (f : Fl) : Bool := decide (0 ≤ f.tick)
set_option maxRecDepth 100000 in
set_option maxHeartbeats 1000000 in
theorem ask_falling (f : Fl) (w : World) (hst : StayAt w) :
    Calls Tryz.prog 42 #[.agg #[.int .i64 f.tick, .int .i8 f.frm, .int .i64 f.who]] w fun e w' => e = .returned (.bool (!decide (f = stay))) ∧ Below w.heap.size w w' := by
  have hk : Below w.heap.size w (w.alloc (.cells #[.int .i64 f.tick, .int .i8 f.frm, .int .i64 f.who] 79)) := by repeat (first | with_reducible exact Below.refl _ _ | (with_reducible refine kSet ?_ ?hB _; case hB => (simp; try omega)) | with_reducible refine kAlloc ?_ _ | with_reducible refine Below.drew ?_ | with_reducible refine kDrewN ?_ _ | with_reducible refine kTrans ?_ (by assumption))
  obtain ⟨⟨y0, y1, y2⟩, hz⟩ := hst.below hk
  simp only [stay, Nat.zero_add] at y0 y1 y2
  have he := Fl_eq f stay
  have hgm : Tryz.prog.eqGuardType Tryz.prog.depth 79 = false := by kernel_rfl
  clear hst hk
  by_cases hs : f = stay
  · rw [show decide (f = stay) = true by simpa using hs] at he ⊢
    simp only [stay] at he
    clear hs
    go_enter Tryz.func42, Tryz.ntmps42
    go_wp2
    go_ret
    exact ⟨rfl, by repeat (first | with_reducible exact Below.refl _ _ | (with_reducible refine kSet ?_ ?hB _; case hB => (simp; try omega)) | with_reducible refine kAlloc ?_ _ | with_reducible refine Below.drew ?_ | with_reducible refine kDrewN ?_ _ | with_reducible refine kTrans ?_ (by assumption))⟩
  · rw [show decide (f = stay) = false by simpa using hs] at he ⊢
    simp only [stay] at he
    clear hs
    go_enter Tryz.func42, Tryz.ntmps42
    go_wp2
    go_ret
    exact ⟨rfl, by repeat (first | with_reducible exact Below.refl _ _ | (with_reducible refine kSet ?_ ?hB _; case hB => (simp; try omega)) | with_reducible refine kAlloc ?_ _ | with_reducible refine Below.drew ?_ | with_reducible refine kDrewN ?_ _ | with_reducible refine kTrans ?_ (by assumption))⟩
end Go.Proofs.YthohngkdfhpieaaGreatDoor

/- LoadedParts: the model's side. -/
namespace Go.Proofs.YthohngkdfhpieaaGreatDoor
open Go.ChangeShapes Go.WideShapes Go.ChangeAt Go.RowKit Go.Shelf Go.Joins Go.Deep
set_option linter.unusedVariables false
set_option linter.unusedSimpArgs false

/-- in how many of the first j rows the piece i falls -/
def ldN (F : Nat → List Fl) (i : Nat) : Nat → Int
  | 0 => 0
  | j + 1 => if 0 ≤ ((F j).getD i stay).tick then ldN F i j + 1 else ldN F i j
theorem ldN_range (F : Nat → List Fl) (i : Nat) : ∀ j, 0 ≤ ldN F i j ∧ ldN F i j ≤ j
  | 0 => by simp [ldN]
  | j + 1 => by
    have h := ldN_range F i j
    unfold ldN
    split <;> push_cast <;> omega
def ldL (F : Nat → List Fl) (m N : Nat) : List Int := (List.range m).map fun i => ldN F i N
theorem ldL_length (F : Nat → List Fl) (m N : Nat) : (ldL F m N).length = m := by simp [ldL]
theorem ldL_get (F : Nat → List Fl) (m N i : Nat) (h : i < (ldL F m N).length) : (ldL F m N)[i] = ldN F i N := by simp [ldL]
structure NRow (w : World) (g n : Nat) (U : Nat → Int) : Prop where
  lt : g < w.heap.size
  at_ : ∀ k, k < n → w.cell? ⟨g, k, none⟩ = some (.int .i64 (U k))
  fz : ∀ j, w.frozen? ⟨g, j, none⟩ = false
theorem NRow.below {w w' : World} {g n : Nat} {F : Nat → Int} (h : NRow w g n F) (b : Below w.heap.size w w') : NRow w' g n F :=
  ⟨Nat.lt_of_lt_of_le h.lt b.size, fun k hk => (b.cell (p := ⟨g, k, none⟩) h.lt).trans (h.at_ k hk), fun j => (b.frozen (p := ⟨g, j, none⟩) h.lt).trans (h.fz j)⟩
theorem NRow.congr {w : World} {g n : Nat} {F G : Nat → Int} (h : NRow w g n F) (e : ∀ k, k < n → F k = G k) : NRow w g n G :=
  ⟨h.lt, fun k hk => by rw [← e k hk]; exact h.at_ k hk, h.fz⟩
theorem NRow.put {w : World} {g n k : Nat} {F G : Nat → Int} {x : Int} (h : NRow w g n F) (hk : k < n) (hx : G k = x) (e : ∀ i, i < n → i ≠ k → F i = G i) : NRow (w.setCell ⟨g, k, none⟩ (.int .i64 x)) g n G := by
  refine ⟨by simpa [World.setCell] using h.lt, fun i hi => ?_, fun i => by rw [World.frozen?_setCell]; exact h.fz i⟩
  by_cases ei : i = k
  · subst ei
    rw [hx]
    exact World.cell?_setCell_same _ _ _ (h.at_ i hi)
  · rw [World.cell?_setCell_other _ _ _ _ (by intro x; injection x with _ x2 _; exact ei x2.symm), h.at_ i hi, e i hi ei]
theorem nrow_made {w : World} {n B : Nat} {e : TypeId} (h : w.ownsRow B e 1 (.slice (some ⟨B, 0, none⟩) n n) n (madeCells #[Value.int .i64 0] n).toList) : NRow w B n (fun _ => 0) := by
  refine ⟨(h.lt B rfl).2, fun j hj => ?_, fun j => h.frozenAt j⟩
  have h2 := h.cellAt j (by omega)
  rw [toList_madeCells_one] at h2
  rw [h2]
  simp [hj]
theorem nrow_slw {w : World} {lo g m N : Nat} {F : Nat → List Fl} (h : NRow w g m (fun i => ldN F i N)) (h1 : lo ≤ g) : SlWIn lo w.heap.size w (ldL F m N) (.slice (some ⟨g, 0, none⟩) m m) := by
  have h2 := SlWIn.mk (lo := lo) (hi := w.heap.size) (w := w) (l := ldL F m N) g 0 m (fun i hi => by rw [ldL_get, Nat.zero_add]; exact h.at_ i (by rw [ldL_length] at hi; exact hi)) h1 h.lt h.lt h.fz (by rw [ldL_length]; exact Nat.le_refl _)
  rwa [ldL_length] at h2
def InPostL (L : List Int) (C : Int) (w : World) (e : Ending) (w' : World) : Prop := ∃ v, e = .returned (.tuple #[v, .int .i64 C]) ∧ SlWIn w.heap.size w'.heap.size w' L v ∧ Below w.heap.size w w'
def lpQ (M : Bool) (L : List Int) : List Int × Int := if M = true then (L, 0) else ([], 1)
theorem pair_ln {a c : List Int} {b d : Int} (h : (a, b) = (c, d)) : a = c ∧ b = d := by injection h with h1 h2; exact ⟨h1, h2⟩
theorem lpQ_ok {M : Bool} {F : Nat → List Fl} {m N : Nat} {L : List Int} {C : Int} (hM : M = true → m ≤ 200 ∧ N ≤ 64) (h : lpQ M (ldL F m N) = (L, C)) : InsWf L ∧ L.length ≤ 1048576 := by
  cases M with
  | false => simp only [lpQ] at h; cases h; exact ⟨fun x hx => by simp at hx, by simp⟩
  | true =>
    rw [← (pair_ln (show (ldL F m N, (0 : Int)) = (L, C) from h)).1]
    obtain ⟨h1, h2⟩ := hM rfl
    refine ⟨fun x hx => ?_, by rw [ldL_length]; omega⟩
    obtain ⟨i, _, rfl⟩ := List.mem_map.1 hx
    have := ldN_range F i N
    simp [Lit.wf, IntKind.min, IntKind.max, IntKind.bits, IntKind.signed]
    omega
theorem l02RunTo3 (bb bo b o m cap pb n pc : Nat) (wd hi : Int) (lb : List Pc) (l : List Pu) (w : World) (hm : lb.length = m) (hbd : BdAt w bb bo wd hi (.slice (some ⟨b, o, none⟩) m cap)) (hq : PcsAt w b o lb) (hbb : b < w.heap.size) (hcap : m ≤ cap)
    (hn : l.length = n) (hnc : n ≤ pc) (hp : PusAt w pb 0 l) (hb : pb < w.heap.size) (hR : true = (boardOk wd hi lb && pushesOk lb l)) (lr : List Fl) (hlr : RunsTo true lb l lr) :
    Calls Tryz.prog 33 #[.pointer (some ⟨bb, bo, none⟩), .slice (some ⟨pb, 0, none⟩) n pc] w fun e w' => ∃ g, e = .returned (.slice (some ⟨g, 0, none⟩) m m) ∧ FlsAt w' g 0 lr ∧ w.heap.size ≤ g ∧ g < w'.heap.size ∧ Below w.heap.size w w' := by
  have hok : boardOk wd hi lb = true ∧ pushesOk lb l = true := by simpa using hR.symm
  have h200 := boardOk_len hok.1
  refine (l02Run_any bb bo b o m cap pb n pc wd hi lb l w hm hbd hq hbb hcap (allOk hok.1) (by omega) hn hp hb (pushesOk_plain hok.2) (pushesOk_found hok.2) (by have := pushesOk_len hok.2; omega) hnc).mono ?_
  rintro e w' ⟨g, F, rfl, hF, hS, hg, hb'⟩
  exact ⟨g, rfl, hlr.at_ (gameL_ok (allOk hok.1) (pushesOk_plain hok.2)) hm hF hS, hg, hF.lt, hb'⟩
theorem InsAt.farL {w : World} {b o : Nat} {l : List Int} {p : Addr} {v : Value} (h : InsAt w b o l) (hp : p.block ≠ b) : InsAt (w.setCell p v) b o l :=
  fun i hi => (World.cell?_of_block (w := w) (Below.heap_setCell _ _ _ _ (Ne.symm hp))).trans (h i hi)
theorem FlsAt.farL {w : World} {b o : Nat} {l : List Fl} {p : Addr} {v : Value} (h : FlsAt w b o l) (hp : p.block ≠ b) : FlsAt (w.setCell p v) b o l :=
  fun i hi => let ⟨h1, h2, h3⟩ := h i hi
    ⟨(World.cell?_of_block (w := w) (Below.heap_setCell _ _ _ _ (Ne.symm hp))).trans h1, (World.cell?_of_block (w := w) (Below.heap_setCell _ _ _ _ (Ne.symm hp))).trans h2, (World.cell?_of_block (w := w) (Below.heap_setCell _ _ _ _ (Ne.symm hp))).trans h3⟩
set_option maxRecDepth 100000 in
set_option maxHeartbeats 16000000 in
theorem specLoadedParts_any (b k q m n r : Nat) (wd hi : Int) (l : List Pc) (p : List Po) (c : List Cl) (w : World) (hp : PcsAt w b 0 l) (hg : PosAt w k 0 p) (hj : ClsAt w q 0 c) (zb : b < w.heap.size) (zk : k < w.heap.size) (zq : q < w.heap.size)
    (hm : l.length = m) (hn : p.length = n) (hr : c.length = r) (h8 : All8 l) (hw : PosWf p) (bw : i8 wd) (bh : i8 hi) (m0 : m ≤ 1048576) (m1 : n ≤ 1048576) (m2 : r ≤ 1048576) (M : Bool) (hM : M = machOk wd hi l p c) (F : Nat → List Fl) (hF : M = true → AnsAt wd hi l p c n F) (N : Nat) (hN : 2 ^ n = N) (L : List Int) (C : Int) (hQ : lpQ M (ldL F m N) = (L, C)) :
    Calls Tryz.prog 9 #[.agg #[.int .i8 wd, .int .i8 hi, .slice (some ⟨b, 0, none⟩) m m, .slice (some ⟨k, 0, none⟩) n n, .slice (some ⟨q, 0, none⟩) r r]] w (InPostL L C w) := by
  obtain ⟨W, hW⟩ : ∃ W, w.alloc (.cells #[.int .i8 wd, .int .i8 hi, .slice (some ⟨b, 0, none⟩) m m, .slice (some ⟨k, 0, none⟩) n n, .slice (some ⟨q, 0, none⟩) r r] 40) = W := ⟨_, rfl⟩
  have kW : Below w.heap.size w W := by rw [← hW]; exact kAlloc (Below.refl _ _) _
  have bm : McAt W w.heap.size wd hi (.slice (some ⟨b, 0, none⟩) m m) (.slice (some ⟨k, 0, none⟩) n n) (.slice (some ⟨q, 0, none⟩) r r) := by rw [← hW]; exact McAt.box _ _ _ _ _ _ _
  have lD := bm.lt
  have HM0 := Lib.hid (fun W2 (h2 : Below W.heap.size W W2) => bm.below h2 lD)
  have HV := Lib.hid (l03Ok_any w.heap.size b k q m n r wd hi l p c W hm hn hr bm (hp.below kW zb) (hg.below kW zk) (hj.below kW zq) (Nat.lt_of_lt_of_le zb kW.size) (Nat.lt_of_lt_of_le zk kW.size) (Nat.lt_of_lt_of_le zq kW.size) h8 hw bw bh m0 m1 m2 M hM)
  have HP := Lib.hid (fun W (h : Below w.heap.size w W) => hp.below h zb)
  have HG := Lib.hid (fun W (h : Below w.heap.size w W) => hg.below h zk)
  have HC := Lib.hid (fun W (h : Below w.heap.size w W) => hj.below h zq)
  have HFF := Lib.hid hF
  have HNN := Lib.hid hN
  have HM := Lib.hid hM
  have Hn := Lib.hid hn
  have Hm := Lib.hid hm
  have Hr := Lib.hid hr
  have HQ := Lib.hid hQ
  have HW := Lib.hid hW
  obtain ⟨x0, x1, x2, x3, x4⟩ := bm
  clear hp hg hj h8 hw hM hn hm hr hF hN hW hQ
  cases M with
  | false =>
    obtain ⟨rfl, rfl⟩ := pair_ln (show (([] : List Int), (1 : Int)) = (L, C) from HQ.out)
    clear HQ HP HG HC HFF HM HNN
    go_enter Tryz.func9, Tryz.ntmps9
    go_upto_region 1 with fail
    try rw [HW.out]
    go_wp2_with fail
    refine HV.out.mono ?_
    rintro e w1 ⟨rfl, hb1⟩
    have T1 := kTrans kW hb1
    clear HV hb1 x0 x1 x2 x3 x4
    go_wp2
    exact bodyPost_ret (v := .tuple #[.slice (some ⟨w1.heap.size, 0, none⟩) 0 0, .int .i64 1]) (by simp [results, Tryz.results9, go_sem]) rfl ⟨_, rfl, .empty _ _ rfl, by repeat (first | with_reducible exact Below.refl _ _ | (with_reducible refine kSet ?_ ?hB _; case hB => (simp; try omega)) | with_reducible refine kAlloc ?_ _ | with_reducible refine Below.drew ?_ | with_reducible refine kDrewN ?_ _ | with_reducible refine kTrans ?_ (by assumption))⟩
  | true =>
    have hmp := machOk_parts HM.out.symm
    rw [Hm.out, Hn.out, Hr.out] at hmp
    have h6 := hmp.2.1.2.1.2
    have hr8 := hmp.2.1.2.2.2
    have hr1 := hmp.2.1.2.2.1
    have Hf := Lib.hid (HFF.out rfl)
    obtain ⟨hN64, hN1, hpn⟩ := pow_N h6 HNN.out
    clear hmp HFF
    obtain ⟨i0, hi0, hz0, hzz1, hzz2⟩ := info_parts info_i64n
    have Hi := Lib.hid hi0
    have Hz0 := Lib.hid hz0
    have Hz1 := Lib.hid hzz1
    have Hz2 := Lib.hid hzz2
    obtain ⟨rfl, rfl⟩ := pair_ln (show (ldL F m N, (0 : Int)) = (L, C) from HQ.out)
    have hm200 : m ≤ 200 := by have := boardOk_len (show boardOk wd hi l = true by have := (Hf.out 0).ok; simp at this; exact this.1); rw [Hm.out] at this; exact this
    clear hi0 hz0 hzz1 hzz2 HQ
    go_enter Tryz.func9, Tryz.ntmps9
    go_upto_region 1 with fail
    try rw [HW.out]
    go_wp2_with fail
    refine HV.out.mono ?_
    rintro e w1 ⟨rfl, hb1⟩
    have T1 := kTrans kW hb1
    clear HV HW x0 x1 x2 x3 x4
    obtain ⟨x0, x1, x2, x3, x4⟩ := HM0.out w1 hb1
    have l1 := Nat.lt_of_lt_of_le lD hb1.size
    have HR := Lib.hid (fun W2 (h2 : Below w1.heap.size w1 W2) => by have h := l03Rows_any w.heap.size n wd hi _ _ _ _ W2 (HM0.out W2 (kTrans hb1 h2)) h6; rw [hpn] at h; exact h)
    clear hpn
    go_wp2_with (refine wpList_make_full _ rfl _ _ 31 rfl w1.heap.size 2 i0 _ 1 Tryz.underlying31 Hi.out Hz0.out Hz1.out _ _ _ _ n rfl rfl rfl rfl ?c1 ?c2 ?c3 ?_)
    case c1 => rw [Hz2.out]; omega
    case c2 => unfold maxLen; omega
    case c3 => exact Nat.le_refl _
    intro w2 hown hgr
    obtain ⟨hz, hzl, _⟩ := zeros_made hown
    have hB2 : Below w1.heap.size w1 w2 := (Below.refl _ _).grown hgr (Nat.le_refl _) (by intro k hk; cases hk)
    have HZ := Lib.hid hz
    clear hown hgr hz x0 x1 x2 x3 x4
    obtain ⟨x0, x1, x2, x3, x4⟩ := HM0.out w2 (kTrans hb1 hB2)
    have l2 := Nat.lt_of_lt_of_le l1 hB2.size
    go_wp2_with (refine wpList_make_full _ rfl _ _ 31 rfl w2.heap.size 2 i0 _ 1 Tryz.underlying31 Hi.out Hz0.out Hz1.out _ _ _ _ m rfl rfl rfl rfl ?d1 ?d2 ?d3 ?_)
    case d1 => rw [Hz2.out]; omega
    case d2 => unfold maxLen; omega
    case d3 => exact Nat.le_refl _
    intro w3 hown hgr
    have HU0 := Lib.hid (nrow_made hown)
    have hB3 : Below w2.heap.size w2 w3 := (Below.refl _ _).grown hgr (Nat.le_refl _) (by intro k hk; cases hk)
    have HU : Hid (NRow w3 w2.heap.size m (fun i => ldN F i 0)) := Lib.hid (HU0.out.congr fun s hs => rfl)
    have HZ3 := Lib.hid (HZ.out.below hB3 hzl)
    have HB := Lib.hid (kTrans hB2 hB3)
    have hw12 : w1.heap.size ≤ w2.heap.size := hB2.size
    clear hown hgr x0 x1 x2 x3 x4 hB2 hB3 HU0 HZ l2
    go_wp2
    go_loopw [6, 7, 8] (fun s6 _ _ wr => ∃ j : Nat, j ≤ N ∧ s6 = .int .i64 j ∧ Hid (NRow wr w2.heap.size m (fun i => ldN F i j)) ∧ Hid (InsAt wr w1.heap.size 0 (zeros n)) ∧ Hid (Below w1.heap.size w1 wr)) (fun s6 _ _ _ => N - (intOf s6).toNat)
    case atStart => exact ⟨0, by omega, rfl, HU, HZ3, HB⟩
    case round =>
      clear HU HZ3 HB
      obtain ⟨j, hj, rfl, hU, hZ, hB⟩ := hrel
      by_cases hlt : j < N
      · go_wp2_with fail
        refine (HR.out wr hB.out).mono ?_
        rintro e w' ⟨rfl, rfl⟩
        have T3 := Lib.hid (kTrans T1 hB.out)
        have hgl := hU.out.lt
        obtain ⟨P, hP⟩ : ∃ P, pushFrom (j : Int) p (zeros n) 0 = P := ⟨_, rfl⟩
        have HPu := Lib.hid (l03PushesO_any w.heap.size k w1.heap.size n _ _ wd hi j p (zeros n) wr Hn.out (zeros_length n) (HM0.out _ (kTrans hb1 hB.out)) (HG.out _ T3.out) hZ.out (Nat.lt_of_lt_of_le zk T3.out.size) (by omega) h6 (by omega) (zeros_late n) P hP)
        have HRW := Lib.hid (Hf.out j)
        have HPE := Lib.hid hP
        clear hP
        go_wp2_with fail
        refine HPu.out.mono ?_
        rintro e w4 ⟨u, rfl, hu, hnn, hb4⟩
        obtain ⟨ua, uc, rfl⟩ := owns_slice hu
        obtain ⟨pb, rfl, ePu, eLt, eLe⟩ := owns_some hu hnn
        have T4 := kTrans T3.out hb4
        have hM4 := HM0.out _ (kTrans hb1 (kTrans hB.out hb4))
        have HRun := Lib.hid (l02RunTo3 w.heap.size 0 b 0 m m pb P.length uc wd hi l P w4 Hm.out ⟨hM4.1, hM4.2.1, hM4.2.2.1⟩ (HP.out _ T4) (Nat.lt_of_lt_of_le zb T4.size) (Nat.le_refl _) rfl eLe ePu eLt (by have := HRW.out.ok; rwa [HPE.out] at this) (F j) (by have := HRW.out.runs; rwa [HPE.out] at this))
        have HB4 := Lib.hid hb4
        clear HPu hu hnn ePu eLt eLe hM4 T4 hb4
        go_wp2_with fail
        refine HRun.out.mono ?_
        rintro e w5 ⟨g, rfl, hfl, hg1, hg2, hb5⟩
        have hb45 := kTrans HB4.out hb5
        have hs4 := HB4.out.size
        have HFl := Lib.hid hfl
        have HU2 : Hid (NRow w5 w2.heap.size m (fun s => if s < 0 then ldN F s (j + 1) else ldN F s j)) := Lib.hid ((hU.out.below hb45).congr fun s hs => by simp)
        have HZ2 := Lib.hid (hZ.out.below hb45 (by omega))
        have HB2 := Lib.hid (kTrans hB.out hb45)
        have hlen : (F j).length = m := by rw [HRW.out.len, Hm.out]
        have HLN := Lib.hid hlen
        have HTK := Lib.hid HRW.out.ticks
        clear HRun HB4 HRW HPE hU hZ hB hfl hb5 hb45 T3 hlen
        go_wp2
        go_loopw [8] (fun s8 wr => ∃ i : Nat, i ≤ m ∧ s8 = .int .i64 i ∧ Hid (NRow wr w2.heap.size m (fun s => if s < i then ldN F s (j + 1) else ldN F s j)) ∧ Hid (InsAt wr w1.heap.size 0 (zeros n)) ∧ Hid (FlsAt wr g 0 (F j)) ∧ Hid (Below w1.heap.size w1 wr)) (fun s8 _ => m - (intOf s8).toNat)
        case atStart => exact ⟨0, by omega, rfl, HU2, HZ2, HFl, HB2⟩
        case round =>
          clear HU2 HZ2 HFl HB2
          obtain ⟨i, hi2, rfl, hU, hZ, hF, hB⟩ := hrel
          by_cases hil : i < m
          · have hiF : i < (F j).length := by rw [HLN.out]; exact hil
            obtain ⟨f, hf⟩ : ∃ f, (F j)[i] = f := ⟨_, rfl⟩
            have cf := (hF.out i hiF).1
            rw [hf] at cf
            simp only [Nat.zero_add] at cf
            have hgD : (F j).getD i stay = f := by rw [List.getD_eq_getElem?_getD, List.getElem?_eq_getElem hiF, hf]; rfl
            have HGD := Lib.hid hgD
            have ct := hU.out.at_ i hil
            rw [if_neg (Nat.lt_irrefl i)] at ct
            have hr := ldN_range F i j
            have fz := hU.out.fz i
            have gl := hU.out.lt
            have hS : ldN F i (j + 1) = if 0 ≤ f.tick then ldN F i j + 1 else ldN F i j := by rw [ldN, hgD]
            obtain ⟨tk, htk⟩ : ∃ tk, f.tick = tk := ⟨_, rfl⟩
            obtain ⟨nv, hnv⟩ : ∃ nv, ldN F i j = nv := ⟨_, rfl⟩
            rw [htk] at cf hS
            rw [hnv] at ct hr hS
            clear hf hgD htk
            by_cases h0 : 0 ≤ tk
            · have h0' : decide (0 ≤ tk) = true := by simpa using h0
              rw [if_pos h0] at hS
              have HPUT := Lib.hid (hU.out.put (x := nv + 1) (G := fun s => if s < i + 1 then ldN F s (j + 1) else ldN F s j) hil (by rw [if_pos (Nat.lt_succ_self i)]; exact hS) (fun s hs he => by
                by_cases h : s < i
                · rw [if_pos h, if_pos (by omega)]
                · rw [if_neg h, if_neg (by omega)]))
              have HZ2 := Lib.hid (hZ.out.farL (p := ⟨w2.heap.size, i, none⟩) (v := .int .i64 (nv + 1)) (show w2.heap.size ≠ w1.heap.size by omega))
              have HF2 := Lib.hid (hF.out.farL (p := ⟨w2.heap.size, i, none⟩) (v := .int .i64 (nv + 1)) (show w2.heap.size ≠ g by omega))
              have HB2 := Lib.hid (kSet hB.out (p := ⟨w2.heap.size, i, none⟩) (show w1.heap.size ≤ w2.heap.size by omega) (.int .i64 (nv + 1)))
              clear hU hZ hF hB hS hnv h0
              go_wp2
              exact ⟨⟨i + 1, by omega, by go_num, HPUT, HZ2, HF2, HB2⟩, by simp [intOf]; omega⟩
            · have h0' : decide (0 ≤ tk) = false := by simpa using h0
              rw [if_neg h0] at hS
              have HU3 : Hid (NRow wr w2.heap.size m (fun s => if s < i + 1 then ldN F s (j + 1) else ldN F s j)) := Lib.hid (hU.out.congr fun s hs => by
                by_cases h : s < i
                · rw [if_pos h, if_pos (by omega)]
                · by_cases h2 : s = i
                  · subst h2; rw [if_neg h, if_pos (by omega), hS, hnv]
                  · rw [if_neg h, if_neg (by omega)])
              clear hU hS hnv h0
              go_wp2
              exact ⟨⟨i + 1, by omega, by go_num, HU3, hZ, hF, hB⟩, by simp [intOf]; omega⟩
          · obtain rfl : i = m := by omega
            have HU3 : Hid (NRow wr w2.heap.size i (fun s => ldN F s (j + 1))) := Lib.hid (hU.out.congr fun s hs => by rw [if_pos hs])
            clear hU
            go_wp2
            exact ⟨⟨j + 1, by omega, by go_num, HU3, hZ, hB⟩, by simp [intOf]; omega⟩
      · obtain rfl : j = N := by omega
        have T3 := Lib.hid (kTrans T1 hB.out)
        have HS := Lib.hid (nrow_slw (lo := w.heap.size) hU.out (by have := T1.size; omega))
        go_wp2_with fail
        refine (HR.out wr hB.out).mono ?_
        rintro e w' ⟨rfl, rfl⟩
        clear hU hZ hB
        go_wp2
        exact bodyPost_ret (v := .tuple #[.slice (some ⟨w2.heap.size, 0, none⟩) m m, .int .i64 0]) (by simp [results, Tryz.results9, go_sem]) rfl ⟨_, rfl, HS.out, T3.out⟩
end Go.Proofs.YthohngkdfhpieaaGreatDoor

/- LoadedParts: the program's side. -/
namespace Go.Proofs.YthohngkdfhpieaaGreatDoor
open Go.ChangeShapes Go.WideShapes Go.ChangeAt Go.RowKit Go.Shelf Go.Joins Go.Deep
set_option linter.unusedVariables false
set_option linter.unusedSimpArgs false

/-- a row of counts, and what lies as it lay -/
structure LpI (w5 : World) (g n : Nat) (U : Nat → Int) (W : World) : Prop where
  os : W.os = w5.os
  tape : W.tape = w5.tape
  output : W.output = w5.output
  size : w5.heap.size ≤ W.heap.size
  block : ∀ k, k < w5.heap.size → k ≠ g → W.heap[k]? = w5.heap[k]?
  row : NRow W g n U
theorem LpI.trans {a b c : World} {g n : Nat} {U V : Nat → Int} (h : LpI a g n U b) (k : LpI b g n V c) : LpI a g n V c :=
  ⟨k.os.trans h.os, k.tape.trans h.tape, k.output.trans h.output, Nat.le_trans h.size k.size, fun j hj ne => (k.block j (Nat.lt_of_lt_of_le hj h.size) ne).trans (h.block j hj ne), k.row⟩
theorem LpI.below {a b c : World} {g n : Nat} {U : Nat → Int} (h : LpI a g n U b) (k : Below b.heap.size b c) : LpI a g n U c :=
  ⟨k.os.trans h.os, k.tape.trans h.tape, k.output.trans h.output, Nat.le_trans h.size k.size, fun j hj ne => (k.block j (Nat.lt_of_lt_of_le hj h.size)).trans (h.block j hj ne), h.row.below k⟩
theorem LpI.low {a b : World} {g n lo : Nat} {U : Nat → Int} {w : World} (h : LpI a g n U b) (k : Below w.heap.size w a) (hg : w.heap.size ≤ g) : Below w.heap.size w b :=
  ⟨h.os.trans k.os, h.tape.trans k.tape, h.output.trans k.output, Nat.le_trans k.size h.size, fun j hj => (h.block j (Nat.lt_of_lt_of_le hj k.size) (by omega)).trans (k.block j hj)⟩
theorem LpI.put {a b : World} {g n k : Nat} {U V : Nat → Int} {x : Int} (h : LpI a g n U b) (hk : k < n) (hx : V k = x) (e : ∀ i, i < n → i ≠ k → U i = V i) : LpI a g n V (b.setCell ⟨g, k, none⟩ (.int .i64 x)) :=
  ⟨h.os, h.tape, h.output, by simpa [World.setCell] using h.size, fun j hj ne => (Below.heap_setCell _ _ _ _ ne).trans (h.block j hj ne), h.row.put hk hx e⟩
def ldP (F : Nat → List Fl) (pre : List R64) (i : Nat) : Int := pre.foldl (fun s x => if 0 ≤ ((F x.v).getD i stay).tick then s + 1 else s) 0
theorem ldP_snoc (F : Nat → List Fl) (pre : List R64) (x : R64) (i : Nat) : ldP F (pre ++ [x]) i = if 0 ≤ ((F x.v).getD i stay).tick then ldP F pre i + 1 else ldP F pre i := by simp [ldP]
theorem ldP_nums (F : Nat → List Fl) (i : Nat) : ∀ (N : Nat), N ≤ 64 → ldP F (numsL N) i = ldN F i N
  | 0, _ => rfl
  | N + 1, h => by rw [numsL_succ, ldP_snoc, ldP_nums F i N (by omega), mk64_v (by omega)]; rfl
theorem ldP_range (F : Nat → List Fl) (i : Nat) (pre : List R64) : 0 ≤ ldP F pre i ∧ ldP F pre i ≤ pre.length := by
  have key : ∀ (pre : List R64) (s : Int), 0 ≤ s → 0 ≤ pre.foldl (fun s x => if 0 ≤ ((F x.v).getD i stay).tick then s + 1 else s) s ∧ pre.foldl (fun s x => if 0 ≤ ((F x.v).getD i stay).tick then s + 1 else s) s ≤ s + pre.length := by
    intro pre
    induction pre with
    | nil => intro s h; simp; omega
    | cons x pre ih =>
      intro s h
      simp only [List.foldl_cons, List.length_cons]
      split
      · have := ih (s + 1) (by omega); push_cast; omega
      · have := ih s h; push_cast; omega
  have := key pre 0 (Int.le_refl _)
  unfold ldP
  omega
theorem LpI.own {w5 : World} {g n : Nat} (f : List R64 → Nat → Int) (hg : g < w5.heap.size) : OwnFrom w5.heap.size (fun (pre : List R64) W => LpI w5 g n (f pre) W) := by
  intro s X Y row hs hgr hr
  have ne : ∀ k, k < w5.heap.size → some k ≠ row := by
    intro k hk e
    have := (hr _ e.symm).1
    omega
  have hb : Y.heap[g]? = X.heap[g]? := hgr.block g (Nat.lt_of_lt_of_le hg hs.size) (ne g hg)
  refine ⟨hgr.os.trans hs.os, hgr.tape.trans hs.tape, hgr.output.trans hs.output, Nat.le_trans hs.size hgr.size, fun k hk n7 => (hgr.block k (Nat.lt_of_lt_of_le hk hs.size) (ne k hk)).trans (hs.block k hk n7), ⟨Nat.lt_of_lt_of_le hg (Nat.le_trans hs.size hgr.size), fun k hk => (World.cell?_of_block (w := X) hb).trans (hs.row.at_ k hk), fun j => ?_⟩⟩
  have := hs.row.fz j
  unfold World.frozen? at this ⊢
  simp only [hb]
  exact this
set_option maxRecDepth 100000 in
set_option maxHeartbeats 16000000 in
theorem implLoadedParts_any (b k q m n r : Nat) (wd hi : Int) (l : List Pc) (p : List Po) (c : List Cl) (w : World) (hp : PcsAt w b 0 l) (hg : PosAt w k 0 p) (hj : ClsAt w q 0 c) (zb : b < w.heap.size) (zk : k < w.heap.size) (zq : q < w.heap.size)
    (hm : l.length = m) (hn : p.length = n) (hr : c.length = r) (h8 : All8 l) (hw : PosWf p) (bw : i8 wd) (bh : i8 hi) (m0 : m ≤ 1048576) (m1 : n ≤ 1048576) (m2 : r ≤ 1048576) (M : Bool) (hM : M = machOk wd hi l p c) (F : Nat → List Fl) (hF : M = true → AnsAt wd hi l p c n F) (N : Nat) (hN : 2 ^ n = N) (hst : StayAt w) (L : List Int) (C : Int) (hQ : lpQ M (ldL F m N) = (L, C)) :
    Calls Tryz.prog 11 #[.agg #[.int .i8 wd, .int .i8 hi, .slice (some ⟨b, 0, none⟩) m m, .slice (some ⟨k, 0, none⟩) n n, .slice (some ⟨q, 0, none⟩) r r]] w (InPostL L C w) := by
  have ka : Below w.heap.size w (w.alloc (.cells #[.int .i8 wd, .int .i8 hi, .slice (some ⟨b, 0, none⟩) m m, .slice (some ⟨k, 0, none⟩) n n, .slice (some ⟨q, 0, none⟩) r r] 40)) := by repeat (first | with_reducible exact Below.refl _ _ | (with_reducible refine kSet ?_ ?hB _; case hB => (simp; try omega)) | with_reducible refine kAlloc ?_ _ | with_reducible refine Below.drew ?_ | with_reducible refine kDrewN ?_ _ | with_reducible refine kTrans ?_ (by assumption))
  have HV := Lib.hid (by have h := deviceOf_any b k q wd hi l p c _ (hp.below ka zb) (hg.below ka zk) (hj.below ka zq) (Nat.lt_of_lt_of_le zb ka.size) (Nat.lt_of_lt_of_le zk ka.size) (Nat.lt_of_lt_of_le zq ka.size) h8 hw (by omega) (by omega) (by omega) M hM; rw [hm, hn, hr] at h; exact h)
  have HS := Lib.hid (fun W (h : Below w.heap.size w W) => hst.below h)
  have HP := Lib.hid (fun W (h : Below w.heap.size w W) => hp.below h zb)
  have HG := Lib.hid (fun W (h : Below w.heap.size w W) => hg.below h zk)
  have HC := Lib.hid (fun W (h : Below w.heap.size w W) => hj.below h zq)
  have HFF := Lib.hid hF
  have HNN := Lib.hid hN
  have HM := Lib.hid hM
  have Hn := Lib.hid hn
  have Hm := Lib.hid hm
  have Hr := Lib.hid hr
  have HQ := Lib.hid hQ
  clear hp hg hj h8 hw hst hM hn hm hr hF hN hQ
  cases M with
  | false =>
    obtain ⟨rfl, rfl⟩ := pair_ln (show (([] : List Int), (1 : Int)) = (L, C) from HQ.out)
    clear HQ HP HG HC HFF HM HNN
    refine (callsIn_wide (n := 8)).1 ?_
    refine callsIn_of_wp_marks Tryz.func11 rfl trivial ?_ rfl
    simp only [Tryz.ntmps11, List.size_toArray, List.length_cons, List.length_nil, Nat.reduceAdd, Nat.reduceSub, Array.replicate_succ, Array.replicate_zero, List.push_toArray, List.append_toArray, List.nil_append, List.cons_append]
    refine wpIn_wide.2 ?_
    go_wp2_with fail
    refine HV.out.mono ?_
    rintro e w1 ⟨_, h1, hb1⟩
    obtain rfl := h1 rfl
    have T1 := kTrans ka hb1
    clear HV h1 hb1
    go_wp2
    exact ⟨.tuple #[.slice none 0 0, .int .i64 1], by simp [results, Tryz.results11, go_sem], ⟨_, rfl, .empty _ _ rfl, by repeat (first | with_reducible exact Below.refl _ _ | (with_reducible refine kSet ?_ ?hB _; case hB => (simp; try omega)) | with_reducible refine kAlloc ?_ _ | with_reducible refine Below.drew ?_ | with_reducible refine kDrewN ?_ _ | with_reducible refine kTrans ?_ (by assumption))⟩⟩
  | true =>
    have hmp := machOk_parts HM.out.symm
    rw [Hm.out, Hn.out, Hr.out] at hmp
    have h6 := hmp.2.1.2.1.2
    have hr8 := hmp.2.1.2.2.2
    have hr1 := hmp.2.1.2.2.1
    have h60 := hmp.2.1.1
    have Hf := Lib.hid (HFF.out rfl)
    obtain ⟨hN64, hN1, hpn⟩ := pow_N h6 HNN.out
    clear hmp HFF
    obtain ⟨i0, hi0, hz0, hzz1, hzz2⟩ := info_parts info_i64n
    have Hi := Lib.hid hi0
    have Hz0 := Lib.hid hz0
    have Hz1 := Lib.hid hzz1
    have Hz2 := Lib.hid hzz2
    obtain ⟨rfl, rfl⟩ := pair_ln (show (ldL F m N, (0 : Int)) = (L, C) from HQ.out)
    have hm200 : m ≤ 200 := by have := boardOk_len (show boardOk wd hi l = true by have := (Hf.out 0).ok; simp at this; exact this.1); rw [Hm.out] at this; exact this
    clear hi0 hz0 hzz1 hzz2 HQ
    refine (callsIn_wide (n := 8)).1 ?_
    refine callsIn_of_wp_marks Tryz.func11 rfl trivial ?_ rfl
    simp only [Tryz.ntmps11, List.size_toArray, List.length_cons, List.length_nil, Nat.reduceAdd, Nat.reduceSub, Array.replicate_succ, Array.replicate_zero, List.push_toArray, List.append_toArray, List.nil_append, List.cons_append]
    refine wpIn_wide.2 ?_
    go_wp2_with fail
    refine HV.out.mono ?_
    rintro e w1 ⟨h1, _, hb1⟩
    obtain ⟨B, rfl, hmpB⟩ := h1 rfl
    have T1 := kTrans ka hb1
    have HMp := Lib.hid hmpB
    clear HV h1 hb1 hmpB
    obtain ⟨W, hW⟩ : ∃ W, w1.alloc (.cells #[.int .i8 wd, .int .i8 hi, .map (some B), .int .i8 wd, .int .i8 hi, .slice (some ⟨b, 0, none⟩) m m, .slice (some ⟨k, 0, none⟩) n n, .slice (some ⟨q, 0, none⟩) r r] 89) = W := ⟨_, rfl⟩
    have kW : Below w1.heap.size w1 W := by rw [← hW]; exact kAlloc (Below.refl _ _) _
    have bD : W.heap[w1.heap.size]? = some (.cells #[.int .i8 wd, .int .i8 hi, .map (some B), .int .i8 wd, .int .i8 hi, .slice (some ⟨b, 0, none⟩) m m, .slice (some ⟨k, 0, none⟩) n n, .slice (some ⟨q, 0, none⟩) r r] 89 (0, 0)) := by rw [← hW]; exact heap_alloc_new _ _
    have HD := Lib.hid (fun W2 (h2 : Below w1.heap.size w1 W2) => (⟨HMp.out.below h2, HP.out _ (kTrans T1 h2), HG.out _ (kTrans T1 h2), HC.out _ (kTrans T1 h2), Nat.lt_of_lt_of_le zb (kTrans T1 h2).size, Nat.lt_of_lt_of_le zk (kTrans T1 h2).size, Nat.lt_of_lt_of_le zq (kTrans T1 h2).size, HS.out _ (kTrans T1 h2)⟩ : DvAt W2 B b k q l p c))
    have HW := Lib.hid hW
    have lD := blk_lt bD
    have BD := Lib.hid (fun W2 (h2 : Below W.heap.size W W2) => blk_below bD h2)
    have c0 : W.cell? ⟨w1.heap.size, 0, none⟩ = some (.int .i8 wd) := cell_of_row _ _ 0 _ _ _ (bD)
    have c1 : W.cell? ⟨w1.heap.size, 1, none⟩ = some (.int .i8 hi) := cell_of_row _ _ 1 _ _ _ (bD)
    have c2 : W.cell? ⟨w1.heap.size, 2, none⟩ = some (.map (some B)) := cell_of_row _ _ 2 _ _ _ (bD)
    have c3 : W.cell? ⟨w1.heap.size, 3, none⟩ = some (.int .i8 wd) := cell_of_row _ _ 3 _ _ _ (bD)
    have c4 : W.cell? ⟨w1.heap.size, 4, none⟩ = some (.int .i8 hi) := cell_of_row _ _ 4 _ _ _ (bD)
    have c5 : W.cell? ⟨w1.heap.size, 5, none⟩ = some (.slice (some ⟨b, 0, none⟩) m m) := cell_of_row _ _ 5 _ _ _ (bD)
    have c6 : W.cell? ⟨w1.heap.size, 6, none⟩ = some (.slice (some ⟨k, 0, none⟩) n n) := cell_of_row _ _ 6 _ _ _ (bD)
    have c7 : W.cell? ⟨w1.heap.size, 7, none⟩ = some (.slice (some ⟨q, 0, none⟩) r r) := cell_of_row _ _ 7 _ _ _ (bD)
    clear hW bD
    go_upto_region 2 with fail
    try rw [HW.out]
    clear HW
    have hWl : w1.heap.size < W.heap.size := lD
    go_wp2_with (refine wpList_make_full _ rfl _ _ 31 rfl W.heap.size 2 i0 _ 1 Tryz.underlying31 Hi.out Hz0.out Hz1.out _ _ _ _ m rfl rfl rfl rfl ?d1 ?d2 ?d3 ?_)
    case d1 => rw [Hz2.out]; omega
    case d2 => unfold maxLen; omega
    case d3 => exact Nat.le_refl _
    intro w2 hown hgr
    have HU0 := Lib.hid (nrow_made hown)
    have hB2 : Below W.heap.size W w2 := (Below.refl _ _).grown hgr (Nat.le_refl _) (by intro k hk; cases hk)
    have k6 : Below W.heap.size W (w2.alloc (.cells #[.slice (some ⟨W.heap.size, 0, none⟩) m m] 31)) := kAlloc hB2 _
    have bD6 := BD.out _ k6
    have HB2 := Lib.hid hB2
    clear c0 c1 c2 c3 c4 c5 c6 c7 hown hgr
    have c0 : (w2.alloc (.cells #[.slice (some ⟨W.heap.size, 0, none⟩) m m] 31)).cell? ⟨w1.heap.size, 0, none⟩ = some (.int .i8 wd) := cell_of_row _ _ 0 _ _ _ (bD6)
    have c1 : (w2.alloc (.cells #[.slice (some ⟨W.heap.size, 0, none⟩) m m] 31)).cell? ⟨w1.heap.size, 1, none⟩ = some (.int .i8 hi) := cell_of_row _ _ 1 _ _ _ (bD6)
    have c2 : (w2.alloc (.cells #[.slice (some ⟨W.heap.size, 0, none⟩) m m] 31)).cell? ⟨w1.heap.size, 2, none⟩ = some (.map (some B)) := cell_of_row _ _ 2 _ _ _ (bD6)
    have c3 : (w2.alloc (.cells #[.slice (some ⟨W.heap.size, 0, none⟩) m m] 31)).cell? ⟨w1.heap.size, 3, none⟩ = some (.int .i8 wd) := cell_of_row _ _ 3 _ _ _ (bD6)
    have c4 : (w2.alloc (.cells #[.slice (some ⟨W.heap.size, 0, none⟩) m m] 31)).cell? ⟨w1.heap.size, 4, none⟩ = some (.int .i8 hi) := cell_of_row _ _ 4 _ _ _ (bD6)
    have c5 : (w2.alloc (.cells #[.slice (some ⟨W.heap.size, 0, none⟩) m m] 31)).cell? ⟨w1.heap.size, 5, none⟩ = some (.slice (some ⟨b, 0, none⟩) m m) := cell_of_row _ _ 5 _ _ _ (bD6)
    have c6 : (w2.alloc (.cells #[.slice (some ⟨W.heap.size, 0, none⟩) m m] 31)).cell? ⟨w1.heap.size, 6, none⟩ = some (.slice (some ⟨k, 0, none⟩) n n) := cell_of_row _ _ 6 _ _ _ (bD6)
    have c7 : (w2.alloc (.cells #[.slice (some ⟨W.heap.size, 0, none⟩) m m] 31)).cell? ⟨w1.heap.size, 7, none⟩ = some (.slice (some ⟨q, 0, none⟩) r r) := cell_of_row _ _ 7 _ _ _ (bD6)
    clear bD6 k6 hB2
    go_wp2_with fail
    refine (rows_any wd hi B m n r _ _ _ _ _ _ _).mono ?_
    rintro e w7 ⟨rfl, rfl⟩
    clear c0 c1 c2 c3 c4 c5 c6 c7
    go_wp2
    refine (wpIn_wide (n := 8)).1 ?_
    obtain ⟨W7, hW7⟩ : ∃ W7, ((w2.alloc (.cells #[.slice (some ⟨W.heap.size, 0, none⟩) m m] 31)).alloc (.cells #[.int .i8 wd, .int .i8 hi, .map (some B), .int .i8 wd, .int .i8 hi, .slice (some ⟨b, 0, none⟩) m m, .slice (some ⟨k, 0, none⟩) n n, .slice (some ⟨q, 0, none⟩) r r] 89)) = W7 := ⟨_, rfl⟩
    rw [hW7]
    have k7 : Below w2.heap.size w2 W7 := by rw [← hW7]; exact kAlloc (kAlloc (Below.refl _ _) _) _
    have s7 : w2.heap.size + 1 < W7.heap.size := by rw [← hW7]; simp
    have bR : W7.heap[w2.heap.size + 1]? = some (.cells #[.int .i8 wd, .int .i8 hi, .map (some B), .int .i8 wd, .int .i8 hi, .slice (some ⟨b, 0, none⟩) m m, .slice (some ⟨k, 0, none⟩) n n, .slice (some ⟨q, 0, none⟩) r r] 89 (0, 0)) := by
      rw [← hW7]
      have h := heap_alloc_new (w2.alloc (.cells #[.slice (some ⟨W.heap.size, 0, none⟩) m m] 31)) (.cells #[.int .i8 wd, .int .i8 hi, .map (some B), .int .i8 wd, .int .i8 hi, .slice (some ⟨b, 0, none⟩) m m, .slice (some ⟨k, 0, none⟩) n n, .slice (some ⟨q, 0, none⟩) r r] 89)
      simpa only [World.size_alloc] using h
    have bX : Boxed W7 w2.heap.size 31 (.slice (some ⟨W.heap.size, 0, none⟩) m m) := by
      rw [← hW7]
      exact (Boxed.new w2 31 (.slice (some ⟨W.heap.size, 0, none⟩) m m)).alloc _
    have gG : W.heap.size < w2.heap.size := HU0.out.lt
    have HK17 := Lib.hid (kTrans kW (kTrans HB2.out k7))
    have HBD7 := Lib.hid (BD.out _ (kTrans HB2.out k7))
    have HRa := Lib.hid bR
    have HX := Lib.hid bX
    have HU7 := Lib.hid (HU0.out.below k7)
    have HT1 := Lib.hid T1
    have hT1 := T1.size
    clear hW7 k7 bR bX T1 kW HU0 HB2 BD
    refine wpIn_rangeFunc_ownH rfl (by omega) (gf := 86) (lb := #[.pointer (some ⟨w2.heap.size + 1, 0, none⟩)]) rfl trivial enters_rows
      (rows_stops (fun k => k = w2.heap.size + 1) 7 (by omega) (w2.heap.size + 1) B m n r _ _ _ _ _ _ wd hi W7 h6 N HNN.out HRa.out rfl (fun k hk => by rw [hk]; omega)) KS.trans
      (fun W l o o' hl ho _ _ => ⟨(grownBy_putObj' W l o').size, fun k hk => (grownBy_putObj' W l o').block k (by have := blk_lt ho; rw [hk]; omega) (fun e => by cases e; omega)⟩)
      (Below.refl _ _) (fun _ => rfl)
      (fun (pre : List R64) W' => LpI W7 W.heap.size m (ldP F pre) W')
      (fun _ _ _ => False)
      (LpI.own (ldP F) (by omega))
      (fun _ _ _ _ _ hs _ _ => hs)
      ⟨rfl, rfl, rfl, Nat.le_refl _, fun _ _ _ => rfl, HU7.out.congr fun _ _ => rfl⟩
      (fun x a' W' => a' = { tmps := #[.agg #[.int .i8 wd, .int .i8 hi, .slice (some ⟨b, 0, none⟩) m m, .slice (some ⟨k, 0, none⟩) n n, .slice (some ⟨q, 0, none⟩) r r], .pointer (some ⟨w.heap.size, 0, none⟩), .slice none 0 0, .int .i64 0, .pointer (some ⟨w1.heap.size, 0, none⟩), .bool true, .pointer (some ⟨w2.heap.size, 0, none⟩), .int .i64 (x.v : Int), undef, undef, .tuple #[.agg #[.int .i8 wd, .int .i8 hi, .map (some B), .int .i8 wd, .int .i8 hi, .slice (some ⟨b, 0, none⟩) m m, .slice (some ⟨k, 0, none⟩) n n, .slice (some ⟨q, 0, none⟩) r r], .bool true], .agg #[.int .i8 wd, .int .i8 hi, .slice (some ⟨b, 0, none⟩) m m, .slice (some ⟨k, 0, none⟩) n n, .slice (some ⟨q, 0, none⟩) r r], .tuple #[.agg #[.int .i8 wd, .int .i8 hi, .map (some B), .int .i8 wd, .int .i8 hi, .slice (some ⟨b, 0, none⟩) m m, .slice (some ⟨k, 0, none⟩) n n, .slice (some ⟨q, 0, none⟩) r r], .bool true], .agg #[.int .i8 wd, .int .i8 hi, .map (some B), .int .i8 wd, .int .i8 hi, .slice (some ⟨b, 0, none⟩) m m, .slice (some ⟨k, 0, none⟩) n n, .slice (some ⟨q, 0, none⟩) r r], .bool true, .bool true, .bool false, .pointer (some ⟨w1.heap.size, 3, none⟩), .pointer (some ⟨w1.heap.size, 3, none⟩), .pointer (some ⟨w1.heap.size, 5, none⟩), .slice (some ⟨b, 0, none⟩) m m, .int .i64 (m : Int), .slice (some ⟨W.heap.size, 0, none⟩) m m, .agg #[.int .i8 wd, .int .i8 hi, .map (some B), .int .i8 wd, .int .i8 hi, .slice (some ⟨b, 0, none⟩) m m, .slice (some ⟨k, 0, none⟩) n n, .slice (some ⟨q, 0, none⟩) r r], .func (.func 86) #[] #[.pointer (some ⟨w2.heap.size + 1, 0, none⟩)], .int .i64 (x.v : Int), undef, undef, undef, undef, undef, undef, undef, undef, undef, undef, undef, undef, undef, undef, undef, undef, undef, undef, undef], defers := [] })
      (fun x a' _ _ _ _ hs _ _ => hs)
      ?assign ?body ?done ?stop
    case assign =>
      rintro lp pre x W' K hi hK
      have HK := Lib.hid hK
      have HI := Lib.hid hi
      clear hK hi
      unfold encR
      gi_wp2
      try rw [Oper.semAt_eq _ _ _ (fun c h => by cases h)]
      try go_simp
      try gi_wp2
      exact HK.out _ _ ((KeepsOthers.refl _).from _) (KS.refl _ _) HI.out rfl
    case body =>
      rintro lp pre x a' W' hlp _ hI rfl hlt
      have HI := Lib.hid hI
      have kw1 := hI.low (lo := 0) HK17.out (by omega)
      have hx64 := x.lt
      have HFA := Lib.hid (fallsN_any B b k q m n r wd hi x.v l p c (zeros n) W' (HD.out _ kw1) Hm.out Hn.out Hr.out (zeros_length n) (noneTold W') h6 (by omega) (zeros_late n) (F x.v) (Hf.out x.v))
      have bDW := (hI.block w1.heap.size (by omega) (by omega)).trans HBD7.out
      have bXW : Boxed W' w2.heap.size 31 (.slice (some ⟨W.heap.size, 0, none⟩) m m) := (hI.block w2.heap.size (by omega) (by omega)).trans HX.out
      have HXW := Lib.hid bXW
      have hsz := hI.size
      clear hI kw1 bXW
      have c0 : W'.cell? ⟨w1.heap.size, 0, none⟩ = some (.int .i8 wd) := cell_of_row _ _ 0 _ _ _ (bDW)
      have c1 : W'.cell? ⟨w1.heap.size, 1, none⟩ = some (.int .i8 hi) := cell_of_row _ _ 1 _ _ _ (bDW)
      have c2 : W'.cell? ⟨w1.heap.size, 2, none⟩ = some (.map (some B)) := cell_of_row _ _ 2 _ _ _ (bDW)
      have c3 : W'.cell? ⟨w1.heap.size, 3, none⟩ = some (.int .i8 wd) := cell_of_row _ _ 3 _ _ _ (bDW)
      have c4 : W'.cell? ⟨w1.heap.size, 4, none⟩ = some (.int .i8 hi) := cell_of_row _ _ 4 _ _ _ (bDW)
      have c5 : W'.cell? ⟨w1.heap.size, 5, none⟩ = some (.slice (some ⟨b, 0, none⟩) m m) := cell_of_row _ _ 5 _ _ _ (bDW)
      have c6 : W'.cell? ⟨w1.heap.size, 6, none⟩ = some (.slice (some ⟨k, 0, none⟩) n n) := cell_of_row _ _ 6 _ _ _ (bDW)
      have c7 : W'.cell? ⟨w1.heap.size, 7, none⟩ = some (.slice (some ⟨q, 0, none⟩) r r) := cell_of_row _ _ 7 _ _ _ (bDW)
      clear bDW
      gi_wp2_with fail
      repeat (rw [Oper.semAt_eq _ _ _ (fun c h => by cases h)]; go_simp; try gi_wp2_with fail)
      refine ⟨trivial, (CallsIn.inRound _ (callsIn_wide.2 HFA.out)).mono ?_⟩
      rintro e w5 ⟨g, rfl, hfl, hg1, hg2, hfz, hb5⟩
      clear HFA c0 c1 c2 c3 c4 c5 c6 c7
      have hs5 := hb5.size
      have HFL := Lib.hid hfl
      have HLN : Hid ((F x.v).length = m) := Lib.hid (by rw [(Hf.out x.v).len, Hm.out])
      have HX5 := Lib.hid (show Boxed w5 w2.heap.size 31 (.slice (some ⟨W.heap.size, 0, none⟩) m m) from blk_below HXW.out hb5)
      have HL5 : Hid (LpI W' W.heap.size m (fun s => if s < 0 then ldP F (pre ++ [x]) s else ldP F pre s) w5) := Lib.hid ⟨hb5.os, hb5.tape, hb5.output, hb5.size, fun k hk _ => hb5.block k hk, (HI.out.row.below hb5).congr fun s _ => by simp⟩
      clear hfl hb5 hfz
      gi_wp2
      repeat (rw [Oper.semAt_eq _ _ _ (fun c h => by cases h)]; go_simp; try gi_wp2)
      gi_loopw [8, 9, 30] (fun _ _ s30 wr => ∃ i : Nat, i ≤ m ∧ s30 = .int .i64 i ∧ Hid (LpI W' W.heap.size m (fun s => if s < i then ldP F (pre ++ [x]) s else ldP F pre s) wr) ∧ Hid (FlsAt wr g 0 (F x.v)) ∧ Hid (Boxed wr w2.heap.size 31 (.slice (some ⟨W.heap.size, 0, none⟩) m m)) ∧ w5.heap.size ≤ wr.heap.size) (fun _ _ s30 _ => m - (intOf s30).toNat)
      case atStart => exact ⟨0, by omega, rfl, HL5, HFL, HX5, Nat.le_refl _⟩
      case round =>
        clear HL5 HFL HX5
        obtain ⟨i, hi2, rfl, hL, hF, hX, hsw⟩ := hrel
        have kw1 := hL.out.low (lo := 0) (HI.out.low (lo := 0) HK17.out (by omega)) (by omega)
        by_cases hil : i < m
        · have hiF : i < (F x.v).length := by rw [HLN.out]; exact hil
          obtain ⟨f, hf⟩ : ∃ f, (F x.v)[i] = f := ⟨_, rfl⟩
          have hst := runs_stay (Hf.out x.v).runs f (by rw [← hf]; exact List.getElem_mem hiF)
          obtain ⟨cf0, cf1, cf2⟩ := hF.out i hiF
          have hgD : (F x.v).getD i stay = f := by rw [List.getD_eq_getElem?_getD, List.getElem?_eq_getElem hiF, hf]; rfl
          have hsn := ldP_snoc F pre x i
          rw [hgD] at hsn
          rw [hf] at cf0 cf1 cf2
          simp only [Nat.zero_add] at cf0 cf1 cf2
          obtain ⟨bf, hbf⟩ : ∃ bf, (!decide (f = stay)) = bf := ⟨_, rfl⟩
          have HKR := Lib.hid (kTrans HT1.out kw1)
          have HASK := Lib.hid (fun Wx (h : Below wr.heap.size wr Wx) => by have h2 := ask_falling f Wx (HS.out _ (kTrans HKR.out h)); rw [hbf] at h2; exact h2)
          have hbf2 : (if 0 ≤ f.tick then ldP F pre i + 1 else ldP F pre i) = if bf = true then ldP F pre i + 1 else ldP F pre i := by
            rw [← hbf]
            by_cases h : f = stay
            · have := hst.2 h
              rw [if_neg (by omega), if_neg (by simp [h])]
            · have h2 : ¬ f.tick < 0 := fun e => h (hst.1 e)
              rw [if_pos (by omega), if_pos (by simp [h])]
          rw [hbf2] at hsn
          have HSN := Lib.hid hsn
          have hrg := ldP_range F i pre
          have hct := hL.out.row.at_ i hil
          rw [if_neg (Nat.lt_irrefl i)] at hct
          obtain ⟨nv, hnv⟩ : ∃ nv, ldP F pre i = nv := ⟨_, rfl⟩
          rw [hnv] at hct HSN hrg
          have HCT := Lib.hid hct
          have HNV := Lib.hid hnv
          obtain ⟨tk, fm, wh⟩ := f
          simp only at cf0 cf1 cf2
          have lg : g < wr.heap.size := by omega
          clear hst hgD hsn hbf hbf2 hf kw1 hct hnv
          gi_wp2_with fail
          repeat (rw [Oper.semAt_eq _ _ _ (fun c h => by cases h)]; go_simp; try gi_wp2_with fail)
          refine ⟨trivial, (CallsIn.inRound _ (callsIn_wide.2 (HASK.out _ (by repeat (first | with_reducible exact Below.refl _ _ | (with_reducible refine kSet ?_ ?hB _; case hB => (simp; try omega)) | with_reducible refine kAlloc ?_ _ | with_reducible refine Below.drew ?_ | with_reducible refine kDrewN ?_ _ | with_reducible refine kTrans ?_ (by assumption)))))).mono ?_⟩
          rintro e w6 ⟨rfl, hb6⟩
          have kk6 : Below wr.heap.size wr w6 := kTrans (show Below wr.heap.size wr _ from by repeat (first | with_reducible exact Below.refl _ _ | (with_reducible refine kSet ?_ ?hB _; case hB => (simp; try omega)) | with_reducible refine kAlloc ?_ _ | with_reducible refine Below.drew ?_ | with_reducible refine kDrewN ?_ _ | with_reducible refine kTrans ?_ (by assumption))) hb6
          have cX := (show Boxed w6 w2.heap.size 31 (.slice (some ⟨W.heap.size, 0, none⟩) m m) from blk_below hX.out kk6).cell
          have HX6 := Lib.hid (show Boxed w6 w2.heap.size 31 (.slice (some ⟨W.heap.size, 0, none⟩) m m) from blk_below hX.out kk6)
          have HL6 := Lib.hid (hL.out.below kk6)
          have HF6 := Lib.hid (hF.out.below kk6 lg)
          have ct : w6.cell? ⟨W.heap.size, i, none⟩ = some (.int .i64 nv) := (kk6.cell (p := ⟨W.heap.size, i, none⟩) hL.out.row.lt).trans HCT.out
          have fz := HL6.out.row.fz i
          have gl := HL6.out.row.lt
          have hs6 := kk6.size
          clear HASK hb6 kk6 hL hF hX cf0 cf1 cf2 HKR HCT
          cases bf with
          | true =>
            have HPUT := Lib.hid (HL6.out.put (x := nv + 1) (V := fun s => if s < i + 1 then ldP F (pre ++ [x]) s else ldP F pre s) hil (by rw [if_pos (Nat.lt_succ_self i)]; exact HSN.out) (fun s hs he => by
              by_cases h : s < i
              · rw [if_pos h, if_pos (by omega)]
              · rw [if_neg h, if_neg (by omega)]))
            have HF2 := Lib.hid (HF6.out.farL (p := ⟨W.heap.size, i, none⟩) (v := .int .i64 (nv + 1)) (show W.heap.size ≠ g by omega))
            have HX2 := Lib.hid (show Boxed (w6.setCell ⟨W.heap.size, i, none⟩ (.int .i64 (nv + 1))) w2.heap.size 31 (.slice (some ⟨W.heap.size, 0, none⟩) m m) from blk_set HX6.out (show w2.heap.size ≠ W.heap.size by omega))
            clear HL6 HF6 HX6 HSN HNV
            gi_wp2
            repeat (rw [Oper.semAt_eq _ _ _ (fun c h => by cases h)]; go_simp; try gi_wp2)
            have hwr : IntKind.i64.wrap ((i : Int) + 1) = (i : Int) + 1 := IntWalk.i64_in _ (by omega)
            try rw [hwr]
            exact ⟨⟨i + 1, by omega, by go_num, HPUT, HF2, HX2, by simp [World.setCell]; omega⟩, by simp [intOf]; omega⟩
          | false =>
            have HL3 : Hid (LpI W' W.heap.size m (fun s => if s < i + 1 then ldP F (pre ++ [x]) s else ldP F pre s) w6) := Lib.hid ⟨HL6.out.os, HL6.out.tape, HL6.out.output, HL6.out.size, HL6.out.block, HL6.out.row.congr fun s hs => by
              by_cases h : s < i
              · rw [if_pos h, if_pos (by omega)]
              · by_cases h2 : s = i
                · subst h2; rw [if_neg h, if_pos (by omega), HSN.out, HNV.out]; rfl
                · rw [if_neg h, if_neg (by omega)]⟩
            clear HL6 HSN HNV
            gi_wp2
            repeat (rw [Oper.semAt_eq _ _ _ (fun c h => by cases h)]; go_simp; try gi_wp2)
            have hwr : IntKind.i64.wrap ((i : Int) + 1) = (i : Int) + 1 := IntWalk.i64_in _ (by omega)
            try rw [hwr]
            exact ⟨⟨i + 1, by omega, by go_num, HL3, HF6, HX6, by omega⟩, by simp [intOf]; omega⟩
        · obtain rfl : i = m := by omega
          have HE : Hid (LpI W' W.heap.size i (ldP F (pre ++ [x])) wr) := Lib.hid ⟨hL.out.os, hL.out.tape, hL.out.output, hL.out.size, hL.out.block, hL.out.row.congr fun s hs => by rw [if_pos hs]⟩
          clear hL hF hX kw1
          gi_wp2
          repeat (rw [Oper.semAt_eq _ _ _ (fun c h => by cases h)]; go_simp; try gi_wp2)
          exact ⟨⟨HE.out.size, fun k o hkB hk ho => (HE.out.block k (blk_lt hk) (by omega)).trans hk⟩, ⟨HE.out.size, fun k hk => HE.out.block k (by rw [hk]; have := HI.out.size; omega) (by rw [hk]; omega)⟩, HI.out.trans HE.out⟩
    case done =>
      rintro D zs W' hDD rfl hI hK
      have kw := kTrans HT1.out (hI.low (lo := 0) HK17.out (by omega))
      have bXW : Boxed W' w2.heap.size 31 (.slice (some ⟨W.heap.size, 0, none⟩) m m) := (hI.block w2.heap.size (by omega) (by omega)).trans HX.out
      have cX := bXW.cell
      have hP := LpI.own (fun pre => ldP F pre) (by omega) (numsL N) W' _ (some D) hI (grownBy_putObj' W' D (.deferred none)) (fun r e => by cases e; exact ⟨hDD, _, hK, rfl⟩)
      have HS2 := Lib.hid (nrow_slw (lo := w.heap.size) (F := F) (N := N) (hP.row.congr fun s _ => ldP_nums F s N hN64) (by omega))
      have HKW := Lib.hid (kw.grown (grownBy_putObj' W' D (.deferred none)) kw.size (fun j e' => by cases e'; omega))
      have HK := Lib.hid hK
      clear hI kw bXW hP hK
      go_wp2
      refine ⟨by simp, .inl ⟨_, _, rfl, run_takeDeferred HK.out, ?_⟩⟩
      exact ⟨.tuple #[.slice (some ⟨W.heap.size, 0, none⟩) m m, .int .i64 0], by simp [results, Tryz.results11, go_sem], ⟨_, rfl, HS2.out, HKW.out⟩⟩
    case stop =>
      rintro D c pre W _ _ h _
      exact h.elim
end Go.Proofs.YthohngkdfhpieaaGreatDoor
