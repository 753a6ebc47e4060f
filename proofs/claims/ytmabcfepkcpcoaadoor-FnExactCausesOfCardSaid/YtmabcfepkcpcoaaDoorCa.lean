/- CausesOf: the chain from a push to a fall; the program. -/
import Derived.Test.YtmabcfepkcpcoaaDoorOo
import Derived.Test.YtmabcfepkcpcoaaDoorCv
import Derived.RegionDies
namespace Go.Proofs.YtmabcfepkcpcoaaDoor
open Go.ChangeShapes Go.WideShapes Go.ChangeAt Go.RowKit
set_option linter.unusedVariables false
set_option linter.unusedSimpArgs false

/-- from a fall back to the push -/
inductive Chain (lr : List Fl) : Int → List Int → Prop where
  | nil : Chain lr (-1) []
  | cons (k : Nat) (f : Fl) (L : List Int) (hk : lr[k]? = some f) (h : Chain lr f.who L) : Chain lr k ((k : Int) :: L)
theorem Chain.or {lr : List Fl} {a : Int} {L : List Int} (h : Chain lr a L) : (a = -1 ∧ L = []) ∨ ∃ (k : Nat) (f : Fl) (L' : List Int), a = k ∧ L = (k : Int) :: L' ∧ lr[k]? = some f ∧ Chain lr f.who L' := by
  cases h with
  | nil => exact .inl ⟨rfl, rfl⟩
  | cons k f L hk h => exact .inr ⟨k, f, L, rfl, rfl, hk, h⟩
theorem Chain.range {lr : List Fl} : ∀ {a : Int} {L : List Int}, Chain lr a L → ∀ x ∈ L, 0 ≤ x ∧ x < lr.length := by
  intro a L h
  induction h with
  | nil => intro x hx; simp at hx
  | cons k f L hk h ih =>
    intro x hx
    rcases List.mem_cons.1 hx with rfl | hx
    · have := (List.getElem?_eq_some_iff.1 hk).1; omega
    · exact ih x hx
theorem runs_cause {wd hi : Int} {lb : List Pc} {l : List Pu} {lr : List Fl} (hb : boardOk wd hi lb = true ∧ pushesOk lb l = true) (h : RunsTo true lb l lr) : ∀ (k : Nat) (f : Fl), lr[k]? = some f → 0 ≤ f.tick →
    f.who = -1 ∨ ∃ (j : Nat) (g : Fl), f.who = j ∧ lr[j]? = some g ∧ 0 ≤ g.tick ∧ g.tick < f.tick := by
  intro k f hf h0
  obtain ⟨h1, h2⟩ := h.2 rfl
  obtain ⟨hk, hfe⟩ := List.getElem?_eq_some_iff.1 hf
  have e : lr.getD k stay = f := by rw [List.getD_eq_getElem?_getD, hf]; rfl
  have hbst := h2 k (show k < lb.length by omega)
  have hc := (hbst.2 (show 0 ≤ (lr.getD k stay).tick by rw [e]; exact h0)).1
  have hc' : Cand (gameL lb l) (fun k => lr.getD k stay) k f := by
    have : Cand (gameL lb l) (fun k => lr.getD k stay) k (lr.getD k stay) := hc
    rwa [e] at this
  rcases hc' with hc | ⟨i, hi, hi0, hc⟩
  · obtain ⟨_, p, _, hp⟩ := insL_mem (l := l) (h := (k, f)) hc
    simp only at hp
    exact .inl (by rw [hp])
  · have hi' : i < lb.length := hi
    have hil : i < lr.length := by omega
    have ei : lr.getD i stay = lr[i] := by rw [List.getD_eq_getElem?_getD, List.getElem?_eq_getElem hil]; rfl
    have hi0' : 0 ≤ (lr.getD i stay).tick := hi0
    have hc2 : (k, f) ∈ outsL lb i (lr.getD i stay) := hc
    have hlt := ((gameL_ok (allOk hb.1) (pushesOk_plain hb.2)).hout i _ hi hi0 _ hc).2
    obtain ⟨_, s, _, hg⟩ := outsL_mem hc2
    simp only at hg
    have hlt' : (lr.getD i stay).tick < f.tick := hlt
    rw [ei] at hi0' hlt'
    exact .inr ⟨i, lr[i], by rw [hg], List.getElem?_eq_getElem hil, hi0', hlt'⟩
theorem chain_exist {wd hi : Int} {lb : List Pc} {l : List Pu} {lr : List Fl} (hb : boardOk wd hi lb = true ∧ pushesOk lb l = true) (h : RunsTo true lb l lr) : ∀ (t : Nat) (k : Nat) (f : Fl), lr[k]? = some f → 0 ≤ f.tick → f.tick ≤ t → ∃ L, Chain lr k L ∧ L.length ≤ t + 1 := by
  intro t
  induction t with
  | zero =>
    intro k f hk h0 ht
    rcases runs_cause hb h k f hk h0 with h1 | ⟨j, g, h1, h2, h3, h4⟩
    · exact ⟨_, .cons k f [] hk (by rw [h1]; exact .nil), by simp⟩
    · omega
  | succ t ih =>
    intro k f hk h0 ht
    rcases runs_cause hb h k f hk h0 with h1 | ⟨j, g, h1, h2, h3, h4⟩
    · exact ⟨_, .cons k f [] hk (by rw [h1]; exact .nil), by simp⟩
    · obtain ⟨L, hL, hl⟩ := ih j g h2 h3 (by omega)
      exact ⟨_, .cons k f L hk (by rw [h1]; exact hL), by simp; omega⟩
def causeC (R : Bool) (i : Int) (lr : List Fl) : Int := if R = true then (if 0 ≤ i ∧ i < lr.length then (if (lr.getD i.toNat stay).tick < 0 then 6 else 0) else 2) else 1
/-- 'P' are the causes, the last one first -/
def Causes (R : Bool) (i : Int) (lr : List Fl) (P : List Int) : Prop := (causeC R i lr = 0 → Chain lr i P) ∧ (causeC R i lr ≠ 0 → P = []) ∧ P.length ≤ 10000 ∧ ∀ x ∈ P, 0 ≤ x ∧ x < 200
theorem causeC_zero {R : Bool} {i : Int} {lr : List Fl} (h : causeC R i lr = 0) : R = true ∧ (0 ≤ i ∧ i < lr.length) ∧ 0 ≤ (lr.getD i.toNat stay).tick := by
  unfold causeC at h
  split at h
  · rename_i h1
    split at h
    · rename_i h2
      split at h
      · omega
      · rename_i h3; exact ⟨h1, h2, by omega⟩
    · omega
  · omega
theorem causes_exist {wd hi : Int} {lb : List Pc} {l : List Pu} {R : Bool} {lr : List Fl} (i : Int) (hR : R = (boardOk wd hi lb && pushesOk lb l)) (h : RunsTo R lb l lr) (hwf : ∀ f ∈ lr, f.tick ≤ 9000) (hlen : lr.length ≤ 200) : ∃ P, Causes R i lr P := by
  by_cases hc : causeC R i lr = 0
  · obtain ⟨rfl, h2, h3⟩ := causeC_zero hc
    have hb : boardOk wd hi lb = true ∧ pushesOk lb l = true := by simpa using hR.symm
    have hk : i.toNat < lr.length := by omega
    have e : lr.getD i.toNat stay = lr[i.toNat] := by rw [List.getD_eq_getElem?_getD, List.getElem?_eq_getElem hk]; rfl
    rw [e] at h3
    have ht := hwf _ (List.getElem_mem hk)
    obtain ⟨L, hL, hl⟩ := chain_exist hb h 9000 i.toNat lr[i.toNat] (List.getElem?_eq_getElem hk) h3 (by omega)
    rw [show ((i.toNat : Nat) : Int) = i by omega] at hL
    exact ⟨L, fun _ => hL, fun h => absurd hc h, by omega, fun x hx => by have := hL.range x hx; omega⟩
  · exact ⟨[], fun h => absurd h hc, fun _ => rfl, by simp, fun x hx => by simp at hx⟩
theorem reverse_any (lo hi : Nat) (v : Value) (P : List Int) (w : World) (h : SlWIn lo hi w P v) (hmax : P.length ≤ 1048576) (h0 : P ≠ []) :
    Calls Tryd.prog 112 #[v] w fun e w' => e = .returned (.tuple #[]) ∧ SlWIn lo hi w' P.reverse v ∧ KeptOut lo hi w w' := by
  cases h with
  | empty a cap h => exact absurd h h0
  | mk b o cap hc h1 h2 hb hf hl =>
    have hr : IRow w b o P.length (fun k => P.getD k 0) := ⟨hb, fun k hk => by rw [hc k hk, List.getD_eq_getElem?_getD, List.getElem?_eq_getElem hk]; rfl, hf⟩
    refine (reverse_mk b o P.length cap _ w hr hl hmax).mono ?_
    rintro e w' ⟨rfl, hR, hK⟩
    refine ⟨rfl, ?_, hK.widen h1 (by omega)⟩
    have := SlWIn.mk (lo := lo) (hi := hi) (w := w') (l := P.reverse) b o cap (fun k hk => ?_) h1 h2 hR.lt hR.fz (by rw [List.length_reverse]; exact hl)
    · rwa [List.length_reverse] at this
    · rw [List.length_reverse] at hk
      rw [hR.at_ k hk, List.getElem_reverse, List.getD_eq_getElem?_getD, List.getElem?_eq_getElem (by omega)]
      rfl
set_option maxRecDepth 100000 in
set_option maxHeartbeats 4000000 in
theorem causesIn_any (g o n cap : Nat) (lr : List Fl) (k0 : Nat) (L : List Int) (w : World) (hn : lr.length = n) (hc : FlsAt w g o lr) (hg : g < w.heap.size) (hle : n ≤ cap) (hmax : n ≤ 200) (hL : Chain lr k0 L) (hlen : L.length ≤ 10000) :
    Calls Tryd.prog 77 #[.slice (some ⟨g, o, none⟩) n cap, .int .i64 k0] w fun e w' => ∃ v, e = .returned v ∧ SlWIn w.heap.size w'.heap.size w' L.reverse v ∧ Below w.heap.size w w' := by
  obtain ⟨i0, hi0, hz0, hzz1, hzz2⟩ := info_parts info_i64
  have Hi := Lib.hid hi0
  have Hz0 := Lib.hid hz0
  have Hz1 := Lib.hid hzz1
  have Hz2 := Lib.hid hzz2
  have Hn := Lib.hid hn
  have hL0 : L ≠ [] := by
    rcases hL.or with ⟨h, _⟩ | ⟨k, f, L', _, h, _⟩
    · omega
    · rw [h]; simp
  have HL : Hid (([] : List Int) ++ L = L) := Lib.hid rfl
  have HC := Lib.hid hL
  have own0 : Hid (w.ownsRow w.heap.size 2 1 (.slice none 0 0) ([] : List Int).length (flatIn [])) := Lib.hid nil_owns
  clear hn hL hi0 hz0 hzz1 hzz2
  go_enter Tryd.func77, Tryd.ntmps77
  go_wp2
  go_loopg [1, 5] L.length (fun kg iv out wr => ∃ (a : Int) (P rest : List Int), iv = .int .i64 a ∧ rest.length = kg ∧ Hid (P ++ rest = L) ∧ Hid (Chain lr a rest) ∧ Hid (wr.ownsRow w.heap.size 2 1 out P.length (flatIn P)) ∧ Below w.heap.size w wr)
  case atStart => exact ⟨k0, [], L, rfl, rfl, HL, HC, own0, Below.refl _ _⟩
  case round =>
    clear HL HC own0
    obtain ⟨a, P, rest, rfl, hr, hf, hch, hown, hbr⟩ := hrel
    obtain ⟨va, vc, rfl⟩ := owns_slice hown.out
    have Hblk := Lib.hid (owns_block hown.out)
    have hpl : P.length ≤ 10000 := by have := congrArg List.length hf.out; rw [List.length_append] at this; omega
    rcases hch.out.or with ⟨rfl, rfl⟩ | ⟨k, f, L', rfl, rfl, hkf, hch2⟩
    · have hPL : P = L := by simpa using hf.out
      subst hPL
      have Hs := Lib.hid (SlWIn.of_owns hown.out)
      clear hf hown hch hc
      go_wp2_with fail
      refine (reverse_any _ _ _ P _ Hs.out (by omega) hL0).mono ?_
      rintro e w2 ⟨rfl, hs2, hk2⟩
      have T : Below w.heap.size w w2 := ⟨hk2.os.trans hbr.os, hk2.tape.trans hbr.tape, hk2.output.trans hbr.output, Nat.le_trans hbr.size hk2.size, fun k hk => (hk2.block k (Nat.lt_of_lt_of_le hk hbr.size) (.inl hk)).trans (hbr.block k hk)⟩
      have Hs2 := Lib.hid (hs2.mono (Nat.le_refl _) hk2.size)
      clear hs2 hk2 Hs
      go_wp2
      go_ret
      exact ⟨_, rfl, Hs2.out, T⟩
    · obtain ⟨hkl, hfe⟩ := List.getElem?_eq_some_iff.1 hkf
      have hkn : k < n := by rw [← Hn.out]; exact hkl
      have hki : (k : Int) < (n : Int) := by omega
      have hne : ((k : Int) == -1) = false := by simp
      have hne2 : ((k : Int) != -1) = true := by simp
      have hf2 : Hid ((P ++ [(k : Int)]) ++ L' = L) := Lib.hid (by rw [← hf.out]; simp)
      have Hch2 := Lib.hid hch2
      clear hf hch hch2
      go_wp2_with (at_builtin; refine wpList_append_own _ rfl _ _ 45 rfl w.heap.size 2 i0 _ 1 8 Tryd.underlying45 Hi.out Hz0.out Hz1.out Hz2.out rfl (by decide) (.slice va P.length vc) P.length (flatIn P) rfl (owns_below hown.out (by repeat (first | with_reducible exact Below.refl _ _ | (with_reducible refine kSet ?_ ?hB _; case hB => (simp; try omega)) | with_reducible refine kAlloc ?_ _ | with_reducible refine Below.drew ?_ | with_reducible refine kDrewN ?_ _ | with_reducible refine kTrans ?_ (by assumption)))) ⟨wr.heap.size, 0, none⟩ 1 1 [.int .i64 k] rfl rfl (World.news_of_block (cs := #[.int .i64 k]) (heap_alloc_new _ _)) (by simp [Value.oneCell']) ?qc4 ?qc5 ?qc6 ?_)
      case qc4 => unfold maxLen; omega
      case qc5 => omega
      case qc6 => have := hbr.size; simp; omega
      intro v6 w6 hown6 hgr hnil
      have Hown6 := Lib.hid (show w6.ownsRow w.heap.size 2 1 v6 (P ++ [(k : Int)]).length (flatIn (P ++ [(k : Int)])) by rw [flatIn_end, List.length_append]; exact hown6)
      have T6 : Below w.heap.size w w6 := grown_below (v := .slice va P.length vc) (by repeat (first | with_reducible exact Below.refl _ _ | (with_reducible refine kSet ?_ ?hB _; case hB => (simp; try omega)) | with_reducible refine kAlloc ?_ _ | with_reducible refine Below.drew ?_ | with_reducible refine kDrewN ?_ _ | with_reducible refine kTrans ?_ (by assumption))) hgr (by intro q hq; exact (Hblk.out q hq).1)
      clear hown6 hgr hnil hown
      obtain ⟨f0, f1, f2⟩ := (hc.below T6 hg) k hkl
      rw [hfe] at f0 f1 f2
      clear hc hkf hfe
      go_wp2
      go_roundg (L'.length)
      case measure => rw [← hr]; simp
      case rel => exact ⟨f.who, P ++ [(k : Int)], L', rfl, rfl, hf2, Hch2, Hown6, T6⟩
/-- what the closure does: it panics, or answers -/
def CauEnd (bad : Prop) (i : Int) (L : List Int) (C : Int) (w : World) (e : Ending) (w' : World) : Prop :=
  (bad → e = .panicked [noPieceP i]) ∧ (¬ bad → ∃ v, e = .returned (.tuple #[v, .int .i64 C]) ∧ SlWIn w.heap.size w'.heap.size w' L v) ∧ Below w.heap.size w w'
theorem fls_form {lo hi : Nat} {w : World} {lr : List Fl} {v : Value} (h : SlWFl lo hi w lr v) (h0 : lr ≠ []) : ∃ g o c, v = .slice (some ⟨g, o, none⟩) lr.length c ∧ FlsAt w g o lr ∧ g < w.heap.size ∧ lr.length ≤ c := by
  cases h with
  | empty a c h => exact absurd h h0
  | mk b o cap hc h1 h2 hb hf hl => exact ⟨b, o, cap, rfl, hc, hb, hl⟩
set_option maxRecDepth 100000 in
set_option maxHeartbeats 4000000 in
theorem causesOf1_any (bx lx ix b m cap pb n : Nat) (wd hi i : Int) (lb : List Pc) (l : List Pu) (w : World) (hm : lb.length = m) (hbd : BdAt w bx 0 wd hi (.slice (some ⟨b, 0, none⟩) m cap)) (hlx : w.cell? ⟨lx, 0, none⟩ = some (.slice (some ⟨pb, 0, none⟩) n n)) (hix : w.cell? ⟨ix, 0, none⟩ = some (.int .i64 i))
    (hq : PcsAt w b 0 lb) (hbb : b < w.heap.size) (hcap : m ≤ cap) (h8 : All8 lb) (hmm : m ≤ 1048576) (hn : l.length = n) (hp : PusAt w pb 0 l) (hb : pb < w.heap.size) (hw : PusWf l) (hmax : n ≤ 1048576) (R : Bool) (hR : R = (boardOk wd hi lb && pushesOk lb l)) (hst : StayAt w) (lr : List Fl) (hlr : RunsTo R lb l lr) (hlen : lr.length ≤ 200)
    (P : List Int) (hP : Causes R i lr P) (C : Int) (hC : causeC R i lr = C) :
    Calls Tryd.prog 75 #[.pointer (some ⟨bx, 0, none⟩), .pointer (some ⟨lx, 0, none⟩), .pointer (some ⟨ix, 0, none⟩)] w (CauEnd (R = true ∧ ¬ (0 ≤ i ∧ i < lr.length)) i P.reverse C w) := by
  have hixl := World.block_lt_of_cell? w _ hix
  have HX := Lib.hid (fun C' (hC : (R = true → C' = 0) ∧ (R = false → C' = 1)) => implRunBoard_any b 0 m cap wd hi lb pb n l w hm hq hbb hcap h8 hmm hn hp hb hw hmax R hR hst lr hlr C' hC)
  have HS := Lib.hid (fun w1 (h : Below w.heap.size w w1) => hst.below h)
  have Hstay := Lib.hid (runs_stay hlr)
  have HP := Lib.hid hP
  have HC := Lib.hid hC
  obtain ⟨q0, q1, q2⟩ := hbd
  simp only [Nat.zero_add] at q0 q1 q2
  clear hm hq h8 hn hp hb hw hR hst hlr hP
  cases R with
  | false =>
    obtain rfl : (1 : Int) = C := hC
    obtain rfl : P = [] := HP.out.2.1 (by simp [causeC])
    have H1 := Lib.hid (HX.out 1 ⟨fun h => (by cases h), fun _ => rfl⟩)
    clear HX HC HP
    go_enter Tryd.func75, Tryd.ntmps75
    go_wp2_with fail
    refine H1.out.mono ?_
    rintro e w1 ⟨v, rfl, hv, hb1⟩
    obtain ⟨a, c, rfl⟩ := hv.form
    clear hv H1
    go_wp2
    exact bodyPost_ret (v := .tuple #[.slice none 0 0, .int .i64 1]) (by simp [results, Tryd.results75, go_sem]) rfl ⟨fun h => (by cases h.1), fun _ => ⟨_, rfl, .empty _ _ rfl⟩, hb1⟩
  | true =>
    have H1 := Lib.hid (HX.out 0 ⟨fun _ => rfl, fun h => (by cases h)⟩)
    clear HX hC
    by_cases hin : 0 ≤ i ∧ i < lr.length
    · obtain ⟨k, rfl⟩ : ∃ k : Nat, i = k := ⟨i.toNat, by omega⟩
      have hkl : k < lr.length := by omega
      have hge : lr.getD ((k : Int)).toNat stay = lr[k] := by rw [Int.toNat_natCast, List.getD_eq_getElem?_getD, List.getElem?_eq_getElem hkl]; rfl
      have hgk : lr[k]? = some lr[k] := List.getElem?_eq_getElem hkl
      have hst1 := Hstay.out _ (List.getElem_mem hkl)
      generalize lr[k] = f at hge hgk hst1
      have Hgk := Lib.hid hgk
      have Hge := Lib.hid hge
      have hne : lr ≠ [] := by intro h; rw [h] at hkl; simp at hkl
      clear hgk hge
      go_enter Tryd.func75, Tryd.ntmps75
      go_wp2_with fail
      refine H1.out.mono ?_
      rintro e w1 ⟨v, rfl, hv, hb1⟩
      obtain ⟨g, o, c, rfl, hfl, hgl, hle⟩ := fls_form hv hne
      have i1 := (hb1.cell (p := ⟨ix, 0, none⟩) hixl).trans hix
      obtain ⟨⟨y0, y1, y2⟩, hz⟩ := HS.out w1 hb1
      simp only [stay, Nat.zero_add] at y0 y1 y2
      have hixl1 := World.block_lt_of_cell? w1 _ i1
      have he := Fl_eq f stay
      have hgm : Tryd.prog.eqGuardType Tryd.prog.depth 91 = false := by kernel_rfl
      have Hfl := Lib.hid hfl
      obtain ⟨nr, hnr⟩ : ∃ nr, lr.length = nr := ⟨_, rfl⟩
      rw [hnr] at hlen hle hkl ⊢
      have Hnr := Lib.hid hnr
      clear hv H1 q0 q1 q2 hfl hnr
      by_cases hs : f = stay
      · rw [show decide (f = stay) = true by simpa using hs] at he
        simp only [stay] at he
        have Hs := Lib.hid hs
        clear hs
        go_wp2
        refine wp_region_class (fun w' => Below w1.heap.size w1 w') (by kernel_rfl) (by kernel_rfl) (Below.drew (Below.refl _ _)) ?_
        repeat (first
          | go_big_quiet_skip
          | (go_big_quiet_want; go_big_quiet_op; go_big_quiet_on)
          | (refine wpQuiet_step (fun K hK => ?_)
             go_simp
             refine hK _ ?_
             clear hK K)
          | (refine wpQuiet_step (fun K hK => ?_)
             go_simp
             apply Exists.intro
             refine ⟨fun w5 hw1 => ?_, hK _ ?_⟩
             · first
               | exact rfl
               | (go_at_call 76
                  (with_reducible refine (numberedFl_ok g o nr c k lr f w5 Hnr.out (Hfl.out.below hw1 hgl) (Nat.lt_of_lt_of_le hgl hw1.size) hle (by omega) hkl Hgk.out).mono ?_)
                  exact fun e w2 h => ⟨h.1, kTrans hw1 h.2⟩)
               | (have j1 := (hw1.cell (p := ⟨ix, 0, none⟩) hixl1).trans i1
                  have x0 := (hw1.cell (p := ⟨0, 0, none⟩) hz).trans y0
                  have x1 := (hw1.cell (p := ⟨0, 1, none⟩) hz).trans y1
                  have x2 := (hw1.cell (p := ⟨0, 2, none⟩) hz).trans y2
                  go_simp
                  exact rfl)
             clear hK K))
        refine wpQuiet_nil ?_
        intro w2 hb2
        have hb02 := kTrans hb1 hb2
        have i2 := (hb2.cell (p := ⟨ix, 0, none⟩) hixl1).trans i1
        obtain rfl : (6 : Int) = C := by
          rw [← HC.out]; unfold causeC; rw [if_pos rfl, if_pos (by rw [Hnr.out]; omega), Hge.out, if_pos (hst1.2 Hs.out)]
        obtain rfl : P = [] := HP.out.2.1 (by rw [HC.out]; decide)
        clear he y0 y1 y2 i1 i2
        go_wp2
        exact bodyPost_ret (v := .tuple #[.slice none 0 0, .int .i64 6]) (by simp [results, Tryd.results75, go_sem]) rfl ⟨fun h => absurd (by omega) h.2, fun _ => ⟨_, rfl, .empty _ _ rfl⟩, hb02⟩
      · rw [show decide (f = stay) = false by simpa using hs] at he
        simp only [stay] at he
        go_wp2
        refine wp_region_class (fun w' => Below w1.heap.size w1 w') (by kernel_rfl) (by kernel_rfl) (Below.drew (Below.refl _ _)) ?_
        repeat (first
          | go_big_quiet_skip
          | (go_big_quiet_want; go_big_quiet_op; go_big_quiet_on)
          | (refine wpQuiet_step (fun K hK => ?_)
             go_simp
             refine hK _ ?_
             clear hK K)
          | (refine wpQuiet_step (fun K hK => ?_)
             go_simp
             apply Exists.intro
             refine ⟨fun w5 hw1 => ?_, hK _ ?_⟩
             · first
               | exact rfl
               | (go_at_call 76
                  (with_reducible refine (numberedFl_ok g o nr c k lr f w5 Hnr.out (Hfl.out.below hw1 hgl) (Nat.lt_of_lt_of_le hgl hw1.size) hle (by omega) hkl Hgk.out).mono ?_)
                  exact fun e w2 h => ⟨h.1, kTrans hw1 h.2⟩)
               | (have j1 := (hw1.cell (p := ⟨ix, 0, none⟩) hixl1).trans i1
                  have x0 := (hw1.cell (p := ⟨0, 0, none⟩) hz).trans y0
                  have x1 := (hw1.cell (p := ⟨0, 1, none⟩) hz).trans y1
                  have x2 := (hw1.cell (p := ⟨0, 2, none⟩) hz).trans y2
                  go_simp
                  exact rfl)
             clear hK K))
        refine wpQuiet_nil ?_
        intro w2 hb2
        have hb02 := kTrans hb1 hb2
        have i2 := (hb2.cell (p := ⟨ix, 0, none⟩) hixl1).trans i1
        have hf0 : ¬ f.tick < 0 := fun h => hs (hst1.1 h)
        have hc0 : causeC true (k : Int) lr = 0 := by
          unfold causeC; rw [if_pos rfl, if_pos (by rw [Hnr.out]; omega), Hge.out, if_neg hf0]
        obtain rfl : (0 : Int) = C := hc0.symm.trans HC.out
        have HCI := Lib.hid (causesIn_any g o nr c lr k P w2 Hnr.out (Hfl.out.below hb2 hgl) (Nat.lt_of_lt_of_le hgl hb2.size) hle hlen (HP.out.1 hc0) HP.out.2.2.1)
        clear he y0 y1 y2 i1 Hfl hs hst1
        go_wp2_with fail
        refine HCI.out.mono ?_
        rintro e w3 ⟨v, rfl, hv3, hb3⟩
        have T := kTrans hb02 hb3
        obtain ⟨va, vc, rfl⟩ := hv3.form
        have Hv := Lib.hid (hv3.mono hb02.size (Nat.le_refl _))
        clear hv3 HCI hb3 i2
        go_wp2
        exact bodyPost_ret (v := .tuple #[.slice va P.reverse.length vc, .int .i64 0]) (by simp [results, Tryd.results75, go_sem]) rfl ⟨fun h => absurd (by omega) h.2, fun _ => ⟨_, rfl, Hv.out⟩, T⟩
    · have HRn := Lib.hid (fun (a : Option Addr) c => numberedFl_no a lr.length c i)
      go_enter Tryd.func75, Tryd.ntmps75
      go_wp2_with fail
      refine H1.out.mono ?_
      rintro e w1 ⟨v, rfl, hv, hb1⟩
      obtain ⟨a, c, rfl⟩ := hv.form
      have i1 := (hb1.cell (p := ⟨ix, 0, none⟩) hixl).trans hix
      obtain ⟨⟨y0, y1, y2⟩, hz⟩ := HS.out w1 hb1
      simp only [stay, Nat.zero_add] at y0 y1 y2
      clear hv H1 q0 q1 q2
      go_wp2
      have hixl1 := World.block_lt_of_cell? w1 _ i1
      have fin : ∀ (bad : Prop), bad → ∀ w5, Below w1.heap.size w1 w5 → CauEnd bad i P.reverse C w (.panicked [noPieceP i]) w5 := fun bad hbad w5 h5 => ⟨fun _ => rfl, fun h => (h hbad).elim, kTrans hb1 h5⟩
      have Fin := Lib.hid fin
      clear fin
      go_region_dies
      all_goals
        go_at_call 76
        refine (HRn.out _ _ _ (by omega) (by omega)).mono ?_
        rintro e w5 ⟨rfl, hb5⟩
        exact ⟨rfl, Fin.out _ (by first | exact trivial | exact ⟨rfl, hin⟩) w5 (by repeat (first | with_reducible exact Below.refl _ _ | (with_reducible refine kSet ?_ ?hB _; case hB => (simp; try omega)) | with_reducible refine kAlloc ?_ _ | with_reducible refine Below.drew ?_ | with_reducible refine kDrewN ?_ _ | with_reducible refine kTrans ?_ (by assumption)))⟩
set_option maxRecDepth 100000 in
set_option maxHeartbeats 4000000 in
theorem refCause_any (bx lx ix : Nat) (bad : Prop) (i : Int) (L : List Int) (C : Int) (w : World) (hbad : bad → C = 2 ∧ L = [])
    (HC : ∀ w1, Below w.heap.size w w1 → Calls Tryd.prog 75 #[.pointer (some ⟨bx, 0, none⟩), .pointer (some ⟨lx, 0, none⟩), .pointer (some ⟨ix, 0, none⟩)] w1 (CauEnd bad i L C w1)) :
    Calls Tryd.prog 74 #[.func (.func 75) #[] #[.pointer (some ⟨bx, 0, none⟩), .pointer (some ⟨lx, 0, none⟩), .pointer (some ⟨ix, 0, none⟩)]] w (InPost L C w) := by
  have hmf : ∀ (fn : Fn) (first cap : Array Value) (w : World), (Instr.makeFunc fn first cap).run Tryd.prog w = .ok (.func fn first cap) w := fun _ _ _ _ => rfl
  have bA : Below w.heap.size w (w.alloc (.cells #[.int .i64 0] 2)) := kAlloc (Below.refl _ _) _
  have H1 := Lib.hid (HC _ bA)
  have hnew := heap_alloc_new w (.cells #[.int .i64 0] 2)
  have hsz : (w.alloc (.cells #[.int .i64 0] 2)).heap.size = w.heap.size + 1 := by simp
  have Hbad := Lib.hid hbad
  clear HC hbad
  go_enter_defers Tryd.func74, Tryd.ntmps74
  go_wp2_with fail
  refine H1.out.mono ?_
  rintro e w2 ⟨h1, h2, hb2⟩
  have hx := blk_below hnew hb2
  have c0 : w2.cell? ⟨w.heap.size, 0, none⟩ = some (.int .i64 0) := cell_of_row _ _ 0 _ _ _ hx
  have z0 : w2.frozen? ⟨w.heap.size, 0, none⟩ = false := frozen_of_row _ _ 0 _ _ hx
  have T2 := kTrans bA hb2
  clear H1 hnew hx
  by_cases hb : bad
  · obtain rfl := h1 hb
    obtain ⟨rfl, rfl⟩ := Hbad.out hb
    clear h1 h2 hb2
    go_wp2
    refine leaves_cons (f := 111) (args := #[.pointer (some ⟨w.heap.size, 0, none⟩)]) (by simp) (by simp [go_sem]) ?_
    refine (catchI_refused ⟨w.heap.size, 0, none⟩ 0 i [] _ c0 z0).mono ?_
    rintro e u' w'' ⟨rfl, rfl, rfl⟩
    have c1 : (w2.setCell ⟨w.heap.size, 0, none⟩ (.int .i64 1)).cell? ⟨w.heap.size, 0, none⟩ = some (.int .i64 1) := World.cell?_setCell_same _ _ _ c0
    have c2 : ((w2.setCell ⟨w.heap.size, 0, none⟩ (.int .i64 1)).setCell ⟨w.heap.size, 0, none⟩ (.int .i64 2)).cell? ⟨w.heap.size, 0, none⟩ = some (.int .i64 2) := World.cell?_setCell_same _ _ _ c1
    have T3 : Below w.heap.size w ((w2.setCell ⟨w.heap.size, 0, none⟩ (.int .i64 1)).setCell ⟨w.heap.size, 0, none⟩ (.int .i64 2)) := kSet (kSet T2 (Nat.le_refl _) _) (Nat.le_refl _) _
    generalize (w2.setCell ⟨w.heap.size, 0, none⟩ (.int .i64 1)).setCell ⟨w.heap.size, 0, none⟩ (.int .i64 2) = w5 at *
    simp [settle, Leaves, results, Tryd.results74, go_sem, c2]
    exact ⟨_, rfl, .empty _ _ rfl, T3⟩
  · obtain ⟨v, rfl, hv⟩ := h2 hb
    clear h1 h2
    go_wp2
    refine leaves_cons (f := 111) (args := #[.pointer (some ⟨w.heap.size, 0, none⟩)]) (by simp) (by simp [go_sem]) ?_
    refine (catchI_idle ⟨w.heap.size, 0, none⟩ _).mono ?_
    rintro e u' w'' ⟨rfl, rfl, rfl⟩
    have c2 : (w2.setCell ⟨w.heap.size, 0, none⟩ (.int .i64 C)).cell? ⟨w.heap.size, 0, none⟩ = some (.int .i64 C) := World.cell?_setCell_same _ _ _ c0
    have T3 : Below w.heap.size w (w2.setCell ⟨w.heap.size, 0, none⟩ (.int .i64 C)) := kSet T2 (Nat.le_refl _) _
    have hs3 : (w2.setCell ⟨w.heap.size, 0, none⟩ (.int .i64 C)).heap.size = w2.heap.size := by simp [World.setCell]
    have hv3 : SlWIn w.heap.size (w2.setCell ⟨w.heap.size, 0, none⟩ (.int .i64 C)).heap.size (w2.setCell ⟨w.heap.size, 0, none⟩ (.int .i64 C)) L v := by
      have k3 : KeptOut w.heap.size (w.heap.size + 1) w2 (w2.setCell ⟨w.heap.size, 0, none⟩ (.int .i64 C)) := KeptOut.set (KeptOut.of_below (Below.refl _ _)) ⟨w.heap.size, 0, none⟩ (Nat.le_refl _) (Nat.lt_succ_self _) _
      rw [hs3]
      exact (hv.out k3 (.inr (by omega))).mono (by omega) (Nat.le_refl _)
    clear hv hs3 c0 z0 hb2
    generalize w2.setCell ⟨w.heap.size, 0, none⟩ (.int .i64 C) = w5 at *
    simp [settle, Leaves, results, Tryd.results74, go_sem, c2]
    exact ⟨_, rfl, hv3, T3⟩
set_option maxRecDepth 100000 in
set_option maxHeartbeats 4000000 in
theorem implCausesOf_any (b m cap : Nat) (wd hi : Int) (lb : List Pc) (pb n : Nat) (l : List Pu) (w : World) (hm : lb.length = m) (hq : PcsAt w b 0 lb) (hbb : b < w.heap.size) (hcap : m ≤ cap) (h8 : All8 lb) (hmm : m ≤ 1048576)
    (hn : l.length = n) (hp : PusAt w pb 0 l) (hb : pb < w.heap.size) (hw : PusWf l) (hmax : n ≤ 1048576) (R : Bool) (hR : R = (boardOk wd hi lb && pushesOk lb l)) (hst : StayAt w) (lr : List Fl) (hlr : RunsTo R lb l lr) (hlen : lr.length ≤ 200)
    (i : Int) (P : List Int) (hP : Causes R i lr P) (C : Int) (hC : causeC R i lr = C) :
    Calls Tryd.prog 39 #[.agg #[.int .i8 wd, .int .i8 hi, .slice (some ⟨b, 0, none⟩) m cap], .slice (some ⟨pb, 0, none⟩) n n, .int .i64 i] w (InPost P.reverse C w) := by
  obtain ⟨W, hW⟩ : ∃ W, ((w.alloc (.cells #[.int .i8 wd, .int .i8 hi, .slice (some ⟨b, 0, none⟩) m cap] 34)).alloc (.cells #[.slice (some ⟨pb, 0, none⟩) n n] 36)).alloc (.cells #[.int .i64 i] 2) = W := ⟨_, rfl⟩
  have bW : Below w.heap.size w W := by rw [← hW]; exact kAlloc (kAlloc (kAlloc (Below.refl _ _) _) _) _
  have g0 : BdAt W w.heap.size 0 wd hi (.slice (some ⟨b, 0, none⟩) m cap) := by
    rw [← hW]; exact (BdAt.box w wd hi (.slice (some ⟨b, 0, none⟩) m cap) 34).below (kAlloc (kAlloc (Below.refl _ _) _) _) (by simp)
  have g1 : W.cell? ⟨w.heap.size + 1, 0, none⟩ = some (.slice (some ⟨pb, 0, none⟩) n n) := by
    rw [← hW]; exact cell_of_row _ _ 0 _ _ _ (blk_below (heap_two w (.cells #[.int .i8 wd, .int .i8 hi, .slice (some ⟨b, 0, none⟩) m cap] 34) (.cells #[.slice (some ⟨pb, 0, none⟩) n n] 36)) (kAlloc (Below.refl _ _) _))
  have g2 : W.cell? ⟨w.heap.size + 1 + 1, 0, none⟩ = some (.int .i64 i) := by
    rw [← hW]
    have h := heap_alloc_new ((w.alloc (.cells #[.int .i8 wd, .int .i8 hi, .slice (some ⟨b, 0, none⟩) m cap] 34)).alloc (.cells #[.slice (some ⟨pb, 0, none⟩) n n] 36)) (.cells #[.int .i64 i] 2)
    simp only [World.size_alloc] at h
    exact cell_of_row _ _ 0 _ _ _ h
  have hbad : (R = true ∧ ¬ (0 ≤ i ∧ i < lr.length)) → C = 2 ∧ P.reverse = [] := by
    rintro ⟨h1, h2⟩
    have : causeC R i lr = 2 := by unfold causeC; rw [if_pos h1, if_neg h2]
    exact ⟨hC.symm.trans this, by rw [hP.2.1 (by rw [this]; decide)]; rfl⟩
  have HX := Lib.hid (refCause_any w.heap.size (w.heap.size + 1) (w.heap.size + 1 + 1) _ i P.reverse C W hbad (fun w1 h => causesOf1_any w.heap.size (w.heap.size + 1) (w.heap.size + 1 + 1) b m cap pb n wd hi i lb l w1 hm (g0.below h g0.lt) ((h.cell (p := ⟨w.heap.size + 1, 0, none⟩) (World.block_lt_of_cell? W _ g1)).trans g1) ((h.cell (p := ⟨w.heap.size + 1 + 1, 0, none⟩) (World.block_lt_of_cell? W _ g2)).trans g2)
    ((hq.below bW hbb).below h (Nat.lt_of_lt_of_le hbb bW.size)) (Nat.lt_of_lt_of_le hbb (Nat.le_trans bW.size h.size)) hcap h8 hmm hn ((hp.below bW hb).below h (Nat.lt_of_lt_of_le hb bW.size)) (Nat.lt_of_lt_of_le hb (Nat.le_trans bW.size h.size)) hw hmax R hR ((hst.below bW).below h) lr hlr hlen P hP C hC))
  have HW := Lib.hid hW
  clear hm hq h8 hn hp hw hR hst hlr hC hbad g0 g1 g2 hW hP
  go_enter Tryd.func39, Tryd.ntmps39
  go_upto_region 1 with fail
  rw [HW.out]
  go_wp2_with fail
  refine HX.out.mono ?_
  rintro e w1 ⟨v, rfl, hv, hb1⟩
  have T := kTrans bW hb1
  obtain ⟨va, vc, rfl⟩ := hv.form
  have Hv := Lib.hid (hv.mono bW.size (Nat.le_refl _))
  clear hv HX hb1
  go_wp2
  exact bodyPost_ret (v := .tuple #[.slice va P.reverse.length vc, .int .i64 C]) (by simp [results, Tryd.results39, go_sem]) rfl ⟨_, rfl, Hv.out, T⟩
end Go.Proofs.YtmabcfepkcpcoaaDoor
