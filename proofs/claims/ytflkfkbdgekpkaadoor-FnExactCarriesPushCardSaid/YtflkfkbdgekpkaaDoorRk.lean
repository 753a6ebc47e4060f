/- The model's run: how all pieces fall. -/
import Derived.Test.YtflkfkbdgekpkaaDoorG10
import Derived.Test.YtflkfkbdgekpkaaDoorG7
import Derived.Test.YtflkfkbdgekpkaaDoorG8
import Derived.Deep.LoopGhost
import Derived.Outline
import Derived.Deep.DeepCutAuto
namespace Go.Proofs.YtflkfkbdgekpkaaDoor
open Go.ChangeShapes Go.WideShapes Go.ChangeAt Go.RowKit Go.Shelf
set_option linter.unusedVariables false
set_option linter.unusedSimpArgs false

theorem BRow.made {w : World} {g n : Nat} {e : TypeId} (h : w.ownsRow g e 1 (.slice (some ⟨g, 0, none⟩) n n) n (madeCells #[Value.bool false] n).toList) : BRow w g n (fun _ => false) := by
  refine ⟨(h.lt g rfl).2, fun k hk => ?_, fun j => h.frozenAt j⟩
  rw [h.cellAt k (by omega)]
  simp [madeCells, hk, Nat.mod_one]
theorem FRow.made {w : World} {g n : Nat} {e : TypeId} (h : w.ownsRow g e 3 (.slice (some ⟨g, 0, none⟩) n n) n (madeCells #[Value.int .i64 0, .int .i8 0, .int .i64 0] (n * 3)).toList) : FRow w g n (fun _ => ⟨0, 0, 0⟩) := by
  refine ⟨(h.lt g rfl).2, fun k hk => ?_, fun j => h.frozenAt j⟩
  have hc : ∀ j, j < 3 → w.cell? ⟨g, k * 3 + j, none⟩ = (#[Value.int .i64 0, .int .i8 0, .int .i64 0] : Array Value)[j]? := by
    intro j hj
    rw [h.cellAt _ (by omega)]
    have h2 : (k * 3 + j) % 3 = j := by omega
    have h3 : k * 3 + j < n * 3 := by omega
    have h4 : (madeCells #[Value.int .i64 0, .int .i8 0, .int .i64 0] (n * 3)).toList[k * 3 + j]? = (#[Value.int .i64 0, .int .i8 0, .int .i64 0] : Array Value)[(k * 3 + j) % 3]? := by
      have h5 : (k * 3 + j) % 3 < 3 := by omega
      simp [madeCells, h3, h2, hj]
    rw [h4, h2]
  exact ⟨hc 0 (by omega), hc 1 (by omega), hc 2 (by omega)⟩
/-- the model's three rows: who is done; the falls; what is next -/
structure Rows3 (w : World) (gd gf gn n : Nat) (dn : Nat → Bool) (F N : Nat → Fl) : Prop where
  d : BRow w gd n dn
  f : FRow w gf n F
  x : FRow w gn n N
  h1 : gd < gf
  h2 : gf < gn
theorem Rows3.below {w w' : World} {gd gf gn n : Nat} {dn : Nat → Bool} {F N : Nat → Fl} (h : Rows3 w gd gf gn n dn F N) (b : Below w.heap.size w w') : Rows3 w' gd gf gn n dn F N :=
  ⟨h.d.below b, h.f.below b, h.x.below b, h.h1, h.h2⟩
theorem Rows3.congr {w : World} {gd gf gn n : Nat} {dn : Nat → Bool} {F F' N N' : Nat → Fl} (h : Rows3 w gd gf gn n dn F N) (e : ∀ k, k < n → F k = F' k) (e' : ∀ k, k < n → N k = N' k) : Rows3 w gd gf gn n dn F' N' :=
  ⟨h.d, h.f.congr e, h.x.congr e', h.h1, h.h2⟩
theorem Rows3.drewN {w : World} {gd gf gn n q : Nat} {dn : Nat → Bool} {F N : Nat → Fl} (h : Rows3 w gd gf gn n dn F N) : Rows3 (w.drewN q) gd gf gn n dn F N :=
  ⟨⟨h.d.lt, h.d.at_, h.d.fz⟩, ⟨h.f.lt, h.f.at_, h.f.fz⟩, ⟨h.x.lt, h.x.at_, h.x.fz⟩, h.h1, h.h2⟩
theorem Rows3.putF {w : World} {gd gf gn n k : Nat} {dn : Nat → Bool} {F N : Nat → Fl} {f : Fl} (h : Rows3 w gd gf gn n dn F N) (hk : k < n) :
    Rows3 (((w.setCell ⟨gf, k * 3, none⟩ (.int .i64 f.tick)).setCell ⟨gf, k * 3 + 1, none⟩ (.int .i8 f.frm)).setCell ⟨gf, k * 3 + 2, none⟩ (.int .i64 f.who)) gd gf gn n dn (set_ F k f) N := by
  have h1 := h.h1; have h2 := h.h2
  have e1 : gf ≠ gd := by omega
  have e2 : gf ≠ gn := by omega
  exact ⟨((h.d.far e1).far e1).far e1, h.f.put hk, ((h.x.far e2).far e2).far e2, h1, h2⟩
theorem Rows3.putN {w : World} {gd gf gn n k : Nat} {dn : Nat → Bool} {F N : Nat → Fl} {f : Fl} (h : Rows3 w gd gf gn n dn F N) (hk : k < n) :
    Rows3 (((w.setCell ⟨gn, k * 3, none⟩ (.int .i64 f.tick)).setCell ⟨gn, k * 3 + 1, none⟩ (.int .i8 f.frm)).setCell ⟨gn, k * 3 + 2, none⟩ (.int .i64 f.who)) gd gf gn n dn F (set_ N k f) := by
  have h1 := h.h1; have h2 := h.h2
  have e1 : gn ≠ gd := by omega
  have e2 : gn ≠ gf := by omega
  exact ⟨((h.d.far e1).far e1).far e1, ((h.f.far e2).far e2).far e2, h.x.put hk, h1, h2⟩
theorem Rows3.putD {w : World} {gd gf gn n k : Nat} {dn : Nat → Bool} {F N : Nat → Fl} {b : Bool} (h : Rows3 w gd gf gn n dn F N) (hk : k < n) :
    Rows3 (w.setCell ⟨gd, k, none⟩ (.bool b)) gd gf gn n (set_ dn k b) F N := by
  have h1 := h.h1; have h2 := h.h2
  have e1 : gd ≠ gf := by omega
  have e2 : gd ≠ gn := by omega
  exact ⟨h.d.put hk, h.f.far e1, h.x.far e2, h1, h2⟩
theorem kSet3 {w w' : World} {g i1 i2 i3 : Nat} {a b c : Value} (h : Below w.heap.size w w') (hg : w.heap.size ≤ g) : Below w.heap.size w (((w'.setCell ⟨g, i1, none⟩ a).setCell ⟨g, i2, none⟩ b).setCell ⟨g, i3, none⟩ c) :=
  kSet (kSet (kSet h hg _) hg _) hg _
def ini (j : Nat) : Nat → Fl := fun k => if k < j then stay else ⟨0, 0, 0⟩
theorem ini_zero : ini 0 = fun _ => ⟨0, 0, 0⟩ := by funext k; simp [ini]
theorem ini_step (j k : Nat) : set_ (ini j) j stay k = ini (j + 1) k := by
  unfold set_ ini
  by_cases e : k = j
  · rw [if_pos e, if_pos (by omega)]
  · rw [if_neg e]
    by_cases h : k < j
    · rw [if_pos h, if_pos (by omega)]
    · rw [if_neg h, if_neg (by omega)]
theorem ini_all (n k : Nat) (h : k < n) : ini n k = stay := by unfold ini; rw [if_pos h]
theorem found_all {lb : List Pc} : ∀ {l : List Pu}, founds lb l = true → ∀ p ∈ l, 0 ≤ findFrom p.x p.y lb 0
  | q :: l, h, p, hp => by
    simp only [founds, Bool.and_eq_true, decide_eq_true_eq] at h
    rcases List.mem_cons.1 hp with rfl | hp
    · exact h.1
    · exact found_all h.2 p hp
theorem pushesOk_found {lb : List Pc} {l : List Pu} (h : pushesOk lb l = true) : ∀ p ∈ l, 0 ≤ findFrom p.x p.y lb 0 := by
  unfold pushesOk at h
  simp only [Bool.and_eq_true] at h
  exact found_all h.2
theorem PcsAt.get {w : World} {b o k : Nat} {lb : List Pc} {q : Pc} (h : PcsAt w b o lb) (hk : lb[k]? = some q) : PcAt w b (o + k * 5) q := by
  obtain ⟨hl, rfl⟩ := List.getElem?_eq_some_iff.1 hk
  exact h k hl
theorem PusAt.get {w : World} {b j : Nat} {l : List Pu} {q : Pu} (h : PusAt w b 0 l) (hk : l[j]? = some q) : PuAt w b (j * 4) q := by
  obtain ⟨hl, rfl⟩ := List.getElem?_eq_some_iff.1 hk
  have := h j hl
  rwa [Nat.zero_add] at this
theorem l01Hits_to (p : Pc) (b o : Nat) (s B : Int) (w : World) (hk : 0 ≤ p.kind ∧ p.kind ≤ 5) (ht : 0 ≤ p.turn ∧ p.turn ≤ 3) (hs : 0 ≤ s ∧ s ≤ 3) (hc : PcAt w b o p) (hbl : b < w.heap.size) (hB : rxB p.kind p.turn s = B) :
    Calls Tryd.prog 34 #[.pointer (some ⟨b, o, none⟩), .int .i64 s] w fun r w' => r = .returned (.int .i64 B) ∧ Below w.heap.size w w' := by
  subst hB; exact l01Hits_any p b o s w hk ht hs hc hbl
theorem getD_pc {lb : List Pc} {k : Nat} (h : k < lb.length) : lb.getD k pc0 = lb[k] := by
  rw [List.getD_eq_getElem?_getD, List.getElem?_eq_getElem h]; rfl

/-- what the model's run leaves -/
def RunPostM (lb : List Pc) (l : List Pu) (m : Nat) (w : World) (e : Ending) (w' : World) : Prop :=
  ∃ g F, e = .returned (.slice (some ⟨g, 0, none⟩) m m) ∧ FRow w' g m F ∧ Sol (gameL lb l) F ∧ w.heap.size ≤ g ∧ Below w.heap.size w w'
theorem info_bool : (Tryd.prog.info? 4).map (fun i => (i.zero, i.size, i.bytes)) = some (some (.bool false), 1, 1) := by kernel_rfl
set_option maxRecDepth 100000 in
set_option maxHeartbeats 16000000 in
theorem l02Run_any (bb bo b o m cap pb np pc : Nat) (wd hi : Int) (lb : List Pc) (l : List Pu) (w : World) (hm : lb.length = m) (hbd : BdAt w bb bo wd hi (.slice (some ⟨b, o, none⟩) m cap)) (hp : PcsAt w b o lb) (hb : b < w.heap.size) (hcap : m ≤ cap) (hok : ∀ q ∈ lb, q.ok = true) (hmm : m ≤ 200)
    (hnp : l.length = np) (hpu : PusAt w pb 0 l) (hpb : pb < w.heap.size) (hpl : ∀ q ∈ l, q.plain = true) (hfd : ∀ q ∈ l, 0 ≤ findFrom q.x q.y lb 0) (hnm : np ≤ 20) (hpc : np ≤ pc) :
    Calls Tryd.prog 61 #[.pointer (some ⟨bb, bo, none⟩), .slice (some ⟨pb, 0, none⟩) np pc] w (RunPostM lb l m w) := by
  have Hm := Lib.hid hm
  have Hp := Lib.hid hp
  have Hbd := Lib.hid hbd
  have Hok := Lib.hid hok
  have Hn := Lib.hid hnp
  have Hpu := Lib.hid hpu
  have Hpl := Lib.hid hpl
  have Hfd := Lib.hid hfd
  have hbb := hbd.lt
  obtain ⟨ib, hib, hb0, hb1, hb2⟩ := info_parts info_bool
  obtain ⟨ia, hia, ha0, ha1, ha2⟩ := info_parts info_fall
  obtain ⟨q0, q1, q2⟩ := hbd
  clear hm hp hok hnp hpu hpl hfd
  go_enter Tryd.func61, Tryd.ntmps61
  go_wp2_with (refine wpList_make_full _ rfl _ _ 157 rfl w.heap.size 4 ib _ 1 Tryd.underlying157 hib hb0 hb1 _ _ _ _ m rfl rfl rfl rfl ?c1 ?c2 ?c3 ?_)
  case c1 => rw [hb2]; omega
  case c2 => unfold maxLen; omega
  case c3 => exact Nat.le_refl _
  intro w1 hown hgr
  have T1 : Below w.heap.size w w1 := (Below.refl _ _).grown hgr (Nat.le_refl _) (by intro k hk; cases hk)
  have HD1 := Lib.hid (BRow.made hown)
  have hs1 := HD1.out.lt
  clear hown hgr hb0 hb1 hb2 hib ib q0 q1 q2
  go_wp2_with (refine wpList_make_full _ rfl _ _ 57 rfl w1.heap.size 73 ia _ 3 Tryd.underlying57 hia ha0 ha1 _ _ _ _ m rfl rfl rfl rfl ?c1 ?c2 ?c3 ?_)
  case c1 => rw [ha2]; omega
  case c2 => unfold maxLen; omega
  case c3 => exact Nat.le_refl _
  intro w2 hown hgr
  have T12 : Below w1.heap.size w1 w2 := (Below.refl _ _).grown hgr (Nat.le_refl _) (by intro k hk; cases hk)
  have T2 := kTrans T1 T12
  have HF2 := Lib.hid (FRow.made hown)
  have HD2 := Lib.hid (HD1.out.below T12)
  have hs2 := HF2.out.lt
  clear hown hgr HD1 T1
  go_wp2_with (refine wpList_make_full _ rfl _ _ 57 rfl w2.heap.size 73 ia _ 3 Tryd.underlying57 hia ha0 ha1 _ _ _ _ m rfl rfl rfl rfl ?c1 ?c2 ?c3 ?_)
  case c1 => rw [ha2]; omega
  case c2 => unfold maxLen; omega
  case c3 => exact Nat.le_refl _
  intro w3 hown hgr
  have T23 : Below w2.heap.size w2 w3 := (Below.refl _ _).grown hgr (Nat.le_refl _) (by intro k hk; cases hk)
  have T3 := kTrans T2 T23
  have HR3 : Hid (Rows3 w3 w.heap.size w1.heap.size w2.heap.size m (fun _ => false) (ini 0) (ini 0)) := Lib.hid ⟨HD2.out.below T23, by rw [ini_zero]; exact HF2.out.below T23, by rw [ini_zero]; exact FRow.made hown, hs1, hs2⟩
  clear hown hgr HD2 HF2 T2 T12 T23 ha0 ha1 ha2 hia ia
  obtain ⟨gd, hgd⟩ : ∃ gd, w.heap.size = gd := ⟨_, rfl⟩
  obtain ⟨gf, hgf⟩ : ∃ gf, w1.heap.size = gf := ⟨_, rfl⟩
  obtain ⟨gn, hgn⟩ : ∃ gn, w2.heap.size = gn := ⟨_, rfl⟩
  rw [hgd, hgf, hgn] at HR3
  simp only [hgd, hgf, hgn]
  have hwd : w.heap.size ≤ gd := by omega
  have hwf : w.heap.size ≤ gf := by omega
  have hwn : w.heap.size ≤ gn := by omega
  have hdf : gd < gf := by omega
  have hfn : gf < gn := by omega
  clear hgd hgf hgn hs1 hs2
  go_wp2
  -- loop 1
  go_loopg [9] m (fun kg v wr => ∃ j : Nat, v = .int .i64 j ∧ j + kg = m ∧ Hid (Rows3 wr gd gf gn m (fun _ => false) (ini j) (ini j)) ∧ Below w.heap.size w wr)
  case atStart => exact ⟨0, rfl, by omega, HR3, T3⟩
  case round =>
    clear HR3 T3
    obtain ⟨j, rfl, hj, hR, hT⟩ := hrel
    by_cases hlt : j < m
    · skip
      go_wp2_with fail
      refine (l02None_any _).mono ?_
      rintro e wa ⟨rfl, ba⟩
      have Ra := Lib.hid (hR.out.below ba)
      have Ta := kTrans hT ba
      clear hR hT ba
      obtain ⟨f0, f1, f2⟩ := Ra.out.f.at_ j hlt
      have z0 := Ra.out.f.fz (j * 3)
      have z1 := Ra.out.f.fz (j * 3 + 1)
      have z2 := Ra.out.f.fz (j * 3 + 2)
      obtain ⟨wb, hwb⟩ : ∃ wb, (((wa.setCell ⟨gf, j * 3, none⟩ (.int .i64 (-1))).setCell ⟨gf, j * 3 + 1, none⟩ (.int .i8 (0))).setCell ⟨gf, j * 3 + 2, none⟩ (.int .i64 (-1))) = wb := ⟨_, rfl⟩
      have Rb : Hid (Rows3 wb gd gf gn m (fun _ => false) (ini (j + 1)) (ini j)) := Lib.hid (by rw [← hwb]; exact (Ra.out.putF (f := stay) hlt).congr (fun k _ => ini_step j k) (fun _ _ => rfl))
      have Tb : Below w.heap.size w wb := by rw [← hwb]; exact kSet3 Ta hwf
      have Hwb := Lib.hid hwb
      clear hwb Ra Ta
      go_upto_region 9 with fail
      rw [Hwb.out]
      clear f0 f1 f2 z0 z1 z2 Hwb
      go_wp2_with fail
      refine (l02None_any _).mono ?_
      rintro e wc ⟨rfl, bc⟩
      have Rc := Lib.hid (Rb.out.below bc)
      have Tc := kTrans Tb bc
      clear Rb Tb bc
      obtain ⟨f0, f1, f2⟩ := Rc.out.x.at_ j hlt
      have z0 := Rc.out.x.fz (j * 3)
      have z1 := Rc.out.x.fz (j * 3 + 1)
      have z2 := Rc.out.x.fz (j * 3 + 2)
      obtain ⟨we, hwe⟩ : ∃ we, (((wc.setCell ⟨gn, j * 3, none⟩ (.int .i64 (-1))).setCell ⟨gn, j * 3 + 1, none⟩ (.int .i8 (0))).setCell ⟨gn, j * 3 + 2, none⟩ (.int .i64 (-1))) = we := ⟨_, rfl⟩
      have Re : Hid (Rows3 we gd gf gn m (fun _ => false) (ini (j + 1)) (ini (j + 1))) := Lib.hid (by rw [← hwe]; exact (Rc.out.putN (f := stay) hlt).congr (fun _ _ => rfl) (fun k _ => ini_step j k))
      have Te : Below w.heap.size w we := by rw [← hwe]; exact kSet3 Tc hwn
      have Hwe := Lib.hid hwe
      clear hwe Rc Tc
      go_upto_region 7 with fail
      rw [Hwe.out]
      clear f0 f1 f2 z0 z1 z2 Hwe
      go_wp2
      go_roundg (gk - 1)
      case measure => omega
      case rel => exact ⟨j + 1, by go_num, by omega, Re, Te⟩
    · skip
      have HR4 : Hid (Rows3 wr gd gf gn m (fun _ => false) (fun _ => stay) (relaxs (fun _ => false) (fun _ => stay) (insL lb (l.take 0)))) := Lib.hid (hR.out.congr (fun k hk => ini_all _ _ (by omega)) (fun k hk => ini_all _ _ (by omega)))
      clear hR
      go_wp2
      clear hlt
      obtain ⟨w4, rfl⟩ : ∃ w4 : World, w4 = wr := ⟨_, rfl⟩
      obtain ⟨g4, rfl⟩ : ∃ g4 : Nat, g4 = gk := ⟨_, rfl⟩
      -- loop 2
      go_loopg [10] np (fun kg v wr => ∃ j : Nat, v = .int .i64 j ∧ j + kg = np ∧ Hid (Rows3 wr gd gf gn m (fun _ => false) (fun _ => stay) (relaxs (fun _ => false) (fun _ => stay) (insL lb (l.take j)))) ∧ Below w.heap.size w wr)
      case atStart => exact ⟨0, rfl, by omega, HR4, hT⟩
      case round =>
        clear HR4 hT
        obtain ⟨j, rfl, hj, hR, hT⟩ := hrel
        by_cases hlt : j < np
        · skip
          have hjl : j < l.length := by rw [Hn.out]; exact hlt
          have hpp := (Hpu.out.below hT hpb) j hjl
          have hpl := Hpl.out _ (List.getElem_mem hjl)
          have hfd := Hfd.out _ (List.getElem_mem hjl)
          have htk : l.take (j + 1) = l.take j ++ [l[j]] := by simp
          have hgp : l[j]? = some l[j] := List.getElem?_eq_getElem hjl
          generalize l[j] = p at hpp hpl hfd htk hgp
          have Hgp := Lib.hid hgp
          clear hgp
          have hins : insL lb (l.take (j + 1)) = insL lb (l.take j) ++ hitAtL lb p.x p.y ⟨p.tick, p.side, -1⟩ := by rw [htk, insL_snoc]
          obtain ⟨k, hk⟩ : ∃ k : Nat, findFrom p.x p.y lb 0 = k := ⟨(findFrom p.x p.y lb 0).toNat, by omega⟩
          have hkl : k < lb.length := by
            rcases findFrom_lt p.x p.y lb 0 with h | h <;> omega
          have hkm : k < m := by rw [← Hm.out]; exact hkl
          have hfr := (frm_stay m).relaxs (dn := fun _ => false) (insL_frm (lb := lb) Hpl.out j) k hkm
          obtain ⟨N, hN⟩ : ∃ N, relaxs (fun _ => false) (fun _ => stay) (insL lb (l.take j)) = N := ⟨_, rfl⟩
          have hN1 : relaxs (fun _ => false) (fun _ => stay) (insL lb (l.take (j + 1))) = relaxs (fun _ => false) N (hitAtL lb p.x p.y ⟨p.tick, p.side, -1⟩) := by rw [hins, relaxs_append, hN]
          rw [hN] at hR hfr
          have HN1 := Lib.hid hN1
          have Hk := Lib.hid hk
          have hpp1 := of_decide_eq_true hpl
          have hps : 0 ≤ p.side ∧ p.side ≤ 3 := by omega
          have hpt : 0 ≤ p.tick ∧ p.tick ≤ 1000 := by omega
          have hqk := Hok.out _ (List.getElem_mem hkl)
          have hgq : lb[k]? = some lb[k] := List.getElem?_eq_getElem hkl
          generalize lb[k] = q at hqk hgq
          have Hgq := Lib.hid hgq
          have hqo := of_decide_eq_true hqk
          have hqk1 : 0 ≤ q.kind ∧ q.kind ≤ 5 := by omega
          have hqt1 : 0 ≤ q.turn ∧ q.turn ≤ 3 := by omega
          obtain ⟨c0, c1, c2, c3⟩ := hpp
          simp only [Nat.zero_add] at c0 c1 c2 c3
          clear hpl hfd htk hins hN hN1 hk hpp1 hqk hgq hqo hjl
          go_wp2_with fail
          refine (l01Find_to bb bo b o m cap wd hi p.x p.y k lb _ Hm.out (Hbd.out.below hT hbb) (Hp.out.below hT hb) (Nat.lt_of_lt_of_le hb hT.size) hcap (by omega) Hk.out).mono ?_
          rintro e wa ⟨rfl, ba⟩
          have Ra := Lib.hid (hR.out.below ba)
          have Ta := kTrans hT ba
          clear hR hT ba c0 c1 c2 c3
          obtain ⟨c0, c1, c2, c3⟩ := (Hpu.out.below Ta hpb).get Hgp.out
          have Tb_ : bb < wa.heap.size := Nat.lt_of_lt_of_le hbb Ta.size
          have Tq_ : b < wa.heap.size := Nat.lt_of_lt_of_le hb Ta.size
          have Tp_ : pb < wa.heap.size := Nat.lt_of_lt_of_le hpb Ta.size
          have hgl := Ra.out.x.lt
          obtain ⟨d0, d1, d2⟩ := Hbd.out.below Ta hbb
          obtain ⟨B0, hB0⟩ : ∃ B0, rxB q.kind q.turn p.side = B0 := ⟨_, rfl⟩
          have hB1 := rxB_range (k := q.kind) (t := q.turn) (f := p.side)
          rw [hB0] at hB1
          have HB0 := Lib.hid hB0
          have hki : (k : Int) < (m : Int) := by omega
          have hji : (j : Int) < (np : Int) := by omega
          have wps : IntKind.i64.wrap p.side = p.side := IntWalk.i64_in _ (by omega)
          have wpt : IntKind.i64.wrap p.tick = p.tick := IntWalk.i64_in _ (by omega)
          have HX := Lib.hid ((Hp.out.below Ta hb).get Hgq.out)
          clear hB0
          cases g : rxF q.kind q.turn p.side with
          | false =>
            have hBn : B0 < 0 := by
              have h := hB1.2.2
              rw [g] at h
              by_cases h0 : 0 ≤ B0
              · exact absurd (h.1 h0) (by decide)
              · omega
            have e1 : decide (0 ≤ B0) = false := by simp; omega
            have HRn : Hid (Rows3 wa gd gf gn m (fun _ => false) (fun _ => stay) (relaxs (fun _ => false) (fun _ => stay) (insL lb (l.take (j + 1))))) := Lib.hid (by rw [HN1.out, hitAtL_stays Hk.out Hgq.out g]; exact Ra.out)
            clear hB1 g Ra
            go_wp2
            refine wp_region_class (fun w' => Below wa.heap.size wa w') (by kernel_rfl) (by kernel_rfl) (Below.drew (Below.refl _ _)) ?_
            repeat (first
              | go_big_quiet_skip
              | (go_big_quiet_want; go_big_quiet_op; go_big_quiet_on)
              | (refine wpQuiet_step (fun K hK => ?_)
                 go_simp
                 refine hK _ ?_
                 clear hK K)
              | (refine wpQuiet_step (fun K hK => ?_)
                 go_simp
                 apply Exists.intro
                 refine ⟨fun w1 hw1 => ?_, hK _ ?_⟩
                 · first
                   | exact rfl
                   | (go_at_call 34
                      (with_reducible refine (l01Hits_to q b (o + k * 5) p.side B0 w1 hqk1 hqt1 hps (HX.out.below hw1 Tq_) (Nat.lt_of_lt_of_le Tq_ hw1.size) HB0.out).mono ?_)
                      exact fun e w2 h => ⟨h.1, kTrans hw1 h.2⟩)
                   | (have e2 := (hw1.cell (p := ⟨bb, bo + 2, none⟩) Tb_).trans d2
                      have c2' := (hw1.cell (p := ⟨pb, j * 4 + 2, none⟩) Tp_).trans c2
                      have c3' := (hw1.cell (p := ⟨pb, j * 4 + 3, none⟩) Tp_).trans c3
                      go_simp
                      exact rfl)
                 clear hK K))
            refine wpQuiet_nil ?_
            intro wb bb_
            have Re := Lib.hid (HRn.out.below bb_)
            have Te := kTrans Ta bb_
            clear HRn Ta bb_ c0 c1 c2 c3 d0 d1 d2 HX hBn e1
            go_wp2
            go_roundg (gk - 1)
            case measure => omega
            case rel => exact ⟨j + 1, by go_num, by omega, Re, Te⟩
          | true =>
            have hBn : 0 ≤ B0 := hB1.2.2.2 g
            have e1 : decide (0 ≤ B0) = true := by simp; omega
            obtain ⟨R2, hR2⟩ : ∃ R2, decide ((N k).tick < 0 ∨ lessF ⟨p.tick, p.side, -1⟩ (N k)) = R2 := ⟨_, rfl⟩
            have HR2 := Lib.hid hR2
            have HN2 : Hid (relaxs (fun _ => false) (fun _ => stay) (insL lb (l.take (j + 1))) = relax (fun _ => false) N (k, ⟨p.tick, p.side, -1⟩)) := Lib.hid (by rw [HN1.out, hitAtL_falls Hk.out Hgq.out g]; rfl)
            have HNx := Lib.hid (Ra.out.x.at_ k hkm)
            clear hB1 g hR2 HN1
            go_wp2
            refine wp_region_class (fun w' => Below wa.heap.size wa w') (by kernel_rfl) (by kernel_rfl) (Below.drew (Below.refl _ _)) ?_
            repeat (first
              | go_big_quiet_skip
              | (go_big_quiet_want; go_big_quiet_op; go_big_quiet_on)
              | (refine wpQuiet_step (fun K hK => ?_)
                 go_simp
                 refine hK _ ?_
                 clear hK K)
              | (refine wpQuiet_step (fun K hK => ?_)
                 go_simp
                 apply Exists.intro
                 refine ⟨fun w1 hw1 => ?_, hK _ ?_⟩
                 · first
                   | exact rfl
                   | (go_at_call 34
                      (with_reducible refine (l01Hits_to q b (o + k * 5) p.side B0 w1 hqk1 hqt1 hps (HX.out.below hw1 Tq_) (Nat.lt_of_lt_of_le Tq_ hw1.size) HB0.out).mono ?_)
                      exact fun e w2 h => ⟨h.1, kTrans hw1 h.2⟩)
                   | (go_at_call 87
                      (with_reducible refine (l02Better_any p.tick p.side (-1) gn (k * 3) (N k) w1 (HNx.out.below hw1 hgl) hfr R2 HR2.out).mono ?_)
                      exact fun e w2 h => ⟨h.1, kTrans hw1 h.2⟩)
                   | (have e2 := (hw1.cell (p := ⟨bb, bo + 2, none⟩) Tb_).trans d2
                      have c2' := (hw1.cell (p := ⟨pb, j * 4 + 2, none⟩) Tp_).trans c2
                      have c3' := (hw1.cell (p := ⟨pb, j * 4 + 3, none⟩) Tp_).trans c3
                      go_simp
                      exact rfl)
                 clear hK K))
            refine wpQuiet_nil ?_
            intro wb bb_
            have Re := Lib.hid (Ra.out.below bb_)
            have Te := kTrans Ta bb_
            clear Ra Ta bb_ c0 c1 c2 c3 d0 d1 d2 HX hBn e1 HNx
            cases R2 with
            | false =>
              have hno : ¬ ((N k).tick < 0 ∨ lessF ⟨p.tick, p.side, -1⟩ (N k)) := of_decide_eq_false HR2.out
              have Rf : Hid (Rows3 wb gd gf gn m (fun _ => false) (fun _ => stay) (relaxs (fun _ => false) (fun _ => stay) (insL lb (l.take (j + 1))))) := Lib.hid (by rw [HN2.out]; exact Re.out.congr (fun _ _ => rfl) (fun i _ => relax_no hno i))
              clear hno Re
              go_wp2
              go_roundg (gk - 1)
              case measure => omega
              case rel => exact ⟨j + 1, by go_num, by omega, Rf, Te⟩
            | true =>
              have hyes : (N k).tick < 0 ∨ lessF ⟨p.tick, p.side, -1⟩ (N k) := of_decide_eq_true HR2.out
              obtain ⟨c0, c1, c2, c3⟩ := (Hpu.out.below Te hpb).get Hgp.out
              have Rd : Hid (Rows3 wb.drew gd gf gn m (fun _ => false) (fun _ => stay) N) := Lib.hid (Re.out.drewN (q := 1))
              have Td : Below w.heap.size w wb.drew := Below.drew Te
              clear Re Te
              go_wp2
              go_still_tail 15, (by kernel_rfl)
              change wpList _ _ _ _ _ wb.drew
              clear c0 c1 c2 c3
              generalize wb.drew = wc at *
              obtain ⟨f0, f1, f2⟩ := Rd.out.x.at_ k hkm
              have z0 := Rd.out.x.fz (k * 3)
              have z1 := Rd.out.x.fz (k * 3 + 1)
              have z2 := Rd.out.x.fz (k * 3 + 2)
              obtain ⟨we, hwe⟩ : ∃ we, (((wc.setCell ⟨gn, k * 3, none⟩ (.int .i64 (p.tick))).setCell ⟨gn, k * 3 + 1, none⟩ (.int .i8 (p.side))).setCell ⟨gn, k * 3 + 2, none⟩ (.int .i64 (-1))) = we := ⟨_, rfl⟩
              have Rf : Hid (Rows3 we gd gf gn m (fun _ => false) (fun _ => stay) (relaxs (fun _ => false) (fun _ => stay) (insL lb (l.take (j + 1))))) := Lib.hid (by rw [← hwe, HN2.out]; exact (Rd.out.putN (f := ⟨p.tick, p.side, -1⟩) hkm).congr (fun _ _ => rfl) (fun i _ => relax_yes rfl hyes i))
              have Tf : Below w.heap.size w we := by rw [← hwe]; exact kSet3 Td hwn
              have Hwe := Lib.hid hwe
              clear hwe Rd Td hyes
              go_upto_region 12 with fail
              rw [Hwe.out]
              clear f0 f1 f2 z0 z1 z2 Hwe
              go_wp2
              go_roundg (gk - 1)
              case measure => omega
              case rel => exact ⟨j + 1, by go_num, by omega, Rf, Tf⟩
        · skip
          obtain rfl : np = j := by omega
          have HR5 : Hid (Rows3 wr gd gf gn m (fun _ => false) (fun _ => stay) (relaxs (fun _ => false) (fun _ => stay) (insL lb l))) := Lib.hid (by have h := hR.out; rwa [List.take_of_length_le (by rw [Hn.out]; exact Nat.le_refl _)] at h)
          have HI5 := Lib.hid (MInv.start (m := m) Hm.out Hpl.out)
          have hu5 := undone_le (fun _ => false) m
          clear hR
          go_wp2
          clear hlt
          obtain ⟨w5, rfl⟩ : ∃ w5 : World, w5 = wr := ⟨_, rfl⟩
          obtain ⟨g5, rfl⟩ : ∃ g5 : Nat, g5 = gk := ⟨_, rfl⟩
          -- loop 3
          go_loopg [13] (undone (fun _ => false) m) (fun kg v wr => ∃ (dn : Nat → Bool) (F N : Nat → Fl), undone dn m = kg ∧ Hid (Rows3 wr gd gf gn m dn F N) ∧ Hid (MInv lb l m dn F N) ∧ Below w.heap.size w wr)
          case atStart => exact ⟨_, _, _, rfl, HR5, HI5, hT⟩
          case round =>
            clear HR5 HI5 hT hu5
            obtain ⟨dn, F, N, hkg, hR, hI, hT⟩ := hrel
            obtain ⟨wo, rfl⟩ : ∃ wo : World, wo = wr := ⟨_, rfl⟩
            obtain ⟨go, rfl⟩ : ∃ go : Nat, go = gk := ⟨_, rfl⟩
            go_wp2
            -- loop 4
            go_loopg [13, 14] m (fun kg va v wr => ∃ (i : Int) (j : Nat), va = .int .i64 i ∧ v = .int .i64 j ∧ j + kg = m ∧ Hid (Fst dn N j i) ∧ Hid (Rows3 wr gd gf gn m dn F N) ∧ Below w.heap.size w wr)
            case atStart => exact ⟨-1, 0, rfl, rfl, by omega, Lib.hid (Fst.zero dn N), hR, hT⟩
            case round =>
              clear hR hT
              obtain ⟨i, j, rfl, rfl, hj, hF, hR, hT⟩ := hrel
              by_cases hlt : j < m
              · skip
                have d0 := hR.out.d.at_ j hlt
                have f0 := (hR.out.x.at_ j hlt).1
                have hji : (j : Int) < (m : Int) := by omega
                obtain ⟨tj, htj⟩ : ∃ tj, (N j).tick = tj := ⟨_, rfl⟩
                rw [htj] at f0
                have Htj := Lib.hid htj
                clear htj
                cases hd : dn j with
                | true =>
                  rw [hd] at d0
                  have hF2 := Lib.hid (hF.out.done hd)
                  clear hF hd
                  go_wp2
                  go_quiet (fail)
                  go_wp2
                  go_roundg (gk - 1)
                  case measure => omega
                  case rel => exact ⟨i, j + 1, rfl, by go_num, by omega, hF2, Lib.hid hR.out.drewN, kDrewN hT _⟩
                | false =>
                  rw [hd] at d0
                  by_cases h0 : 0 ≤ tj
                  · have e0 : decide (0 ≤ tj) = true := by simpa using h0
                    rcases hF.out.form with rfl | ⟨a, rfl, ha⟩
                    · have hF2 := Lib.hid (hF.out.first hd (by rw [Htj.out]; exact h0))
                      clear hF hd
                      go_wp2
                      go_quiet (fail)
                      go_wp2
                      go_roundg (gk - 1)
                      case measure => omega
                      case rel => exact ⟨j, j + 1, rfl, by go_num, by omega, hF2, Lib.hid hR.out.drewN, kDrewN hT _⟩
                    · have f1 := (hR.out.x.at_ a (by omega)).1
                      obtain ⟨ta, hta⟩ : ∃ ta, (N a).tick = ta := ⟨_, rfl⟩
                      rw [hta] at f1
                      have Hta := Lib.hid hta
                      have ham : (a : Int) < (m : Int) := by omega
                      have e1 : decide ((a : Int) < 0) = false := by simp
                      clear hta
                      by_cases hl : tj < ta
                      · have e2 : decide (tj < ta) = true := by simpa using hl
                        have hF2 := Lib.hid (hF.out.next hd (by rw [Htj.out]; exact h0) (by rw [Htj.out, Hta.out]; exact hl))
                        clear hF hd
                        go_wp2
                        go_quiet (fail)
                        go_wp2
                        go_roundg (gk - 1)
                        case measure => omega
                        case rel => exact ⟨j, j + 1, rfl, by go_num, by omega, hF2, Lib.hid hR.out.drewN, kDrewN hT _⟩
                      · have e2 : decide (tj < ta) = false := by simpa using hl
                        have hF2 := Lib.hid (hF.out.late (by rw [Htj.out, Hta.out]; omega))
                        clear hF hd
                        go_wp2
                        go_quiet (fail)
                        go_wp2
                        go_roundg (gk - 1)
                        case measure => omega
                        case rel => exact ⟨a, j + 1, rfl, by go_num, by omega, hF2, Lib.hid hR.out.drewN, kDrewN hT _⟩
                  · have e0 : decide (0 ≤ tj) = false := by simpa using h0
                    have hF2 := Lib.hid (hF.out.stays (by rw [Htj.out]; omega))
                    clear hF hd
                    go_wp2
                    go_quiet (fail)
                    go_wp2
                    go_roundg (gk - 1)
                    case measure => omega
                    case rel => exact ⟨i, j + 1, rfl, by go_num, by omega, hF2, Lib.hid hR.out.drewN, kDrewN hT _⟩
              · skip
                obtain rfl : m = j := by omega
                rcases hF.out with ⟨rfl, hnone⟩ | ⟨a, rfl, ham, hda, h0a, hmin⟩
                · have hS := Lib.hid (hI.out.inv.sol (fun k hk hd => hnone k (by rw [← Hm.out]; exact hk) hd))
                  have hFr := Lib.hid hR.out.f
                  clear hF hR hI hnone
                  go_wp2
                  try rw [Exit.noGoto_ret]
                  go_ret
                  exact ⟨gf, F, rfl, hFr.out, hS.out, hwf, hT⟩
                · skip
                  have hstep := hI.out.step Hm.out Hok.out Hpl.out ham hda h0a hmin
                  have hat := hI.out.at_ Hm.out hmm ham h0a
                  have hfrm := hI.out.frm
                  have hund := undone_set hda m ham
                  have hal : a < lb.length := by rw [Hm.out]; exact ham
                  have hqk := Hok.out _ (List.getElem_mem hal)
                  have hgq : lb[a]? = some lb[a] := List.getElem?_eq_getElem hal
                  have hgd : lb.getD a pc0 = lb[a] := getD_pc hal
                  unfold outsL at hstep
                  rw [hgd] at hat hstep
                  generalize lb[a] = q at hqk hgq hgd hat hstep
                  have Hgq := Lib.hid hgq
                  have hqo := of_decide_eq_true hqk
                  have hqk1 : 0 ≤ q.kind ∧ q.kind ≤ 5 := by omega
                  have hqt1 : 0 ≤ q.turn ∧ q.turn ≤ 3 := by omega
                  have hqd : 1 ≤ q.delay ∧ q.delay ≤ 9 := by omega
                  have hqx : 0 ≤ q.x ∧ q.x ≤ 23 := by omega
                  have hqy : 0 ≤ q.y ∧ q.y ≤ 23 := by omega
                  obtain ⟨f, hf⟩ : ∃ f, N a = f := ⟨_, rfl⟩
                  rw [hf] at hat hstep h0a
                  have Hstep := Lib.hid hstep
                  have Hf := Lib.hid hf
                  have Hfrm := Lib.hid hfrm
                  obtain ⟨⟨ft0, ft1, ff0, ff1, fw0, fw1⟩, hfx⟩ := hat
                  have Hfx := Lib.hid hfx
                  have Hdn : Hid (∀ k, k < m → set_ dn a true k = false → True) := Lib.hid (fun _ _ _ => trivial)
                  obtain ⟨dn', hdn'⟩ : ∃ dn', set_ dn a true = dn' := ⟨_, rfl⟩
                  have Hdn' := Lib.hid hdn'
                  rw [hdn'] at hund
                  have d0 := hR.out.d.at_ a ham
                  have z0 := hR.out.d.fz a
                  have hai : (a : Int) < (m : Int) := by omega
                  have hai0 : (0 : Int) ≤ (a : Int) := by omega
                  clear hF hmin hstep hfrm hfx hdn' hI hgd hgq hqo hqk hf Hdn
                  obtain ⟨wa, hwa⟩ : ∃ wa, wr.setCell ⟨gd, a, none⟩ (.bool true) = wa := ⟨_, rfl⟩
                  have Ra : Hid (Rows3 wa gd gf gn m dn' F N) := Lib.hid (by rw [← hwa, ← Hdn'.out]; exact hR.out.putD ham)
                  have Ta : Below w.heap.size w wa := by rw [← hwa]; exact kSet hT hwd _
                  have Hwa := Lib.hid hwa
                  clear hwa hR hT
                  go_upto_region 26 with fail
                  rw [Hwa.out]
                  clear d0 z0 Hwa hlt
                  obtain ⟨x0, x1, x2⟩ := Ra.out.x.at_ a ham
                  rw [Hf.out] at x0 x1 x2
                  obtain ⟨f0, f1, f2⟩ := Ra.out.f.at_ a ham
                  have z0 := Ra.out.f.fz (a * 3)
                  have z1 := Ra.out.f.fz (a * 3 + 1)
                  have z2 := Ra.out.f.fz (a * 3 + 2)
                  obtain ⟨wb, hwb⟩ : ∃ wb, (((wa.setCell ⟨gf, a * 3, none⟩ (.int .i64 (f.tick))).setCell ⟨gf, a * 3 + 1, none⟩ (.int .i8 (f.frm))).setCell ⟨gf, a * 3 + 2, none⟩ (.int .i64 (f.who))) = wb := ⟨_, rfl⟩
                  have Rb : Hid (Rows3 wb gd gf gn m dn' (set_ F a f) N) := Lib.hid (by rw [← hwb]; exact Ra.out.putF ham)
                  have Tb : Below w.heap.size w wb := by rw [← hwb]; exact kSet3 Ta hwf
                  have Hwb := Lib.hid hwb
                  clear hwb Ra Ta
                  go_upto_region 27 with fail
                  rw [Hwb.out]
                  clear f0 f1 f2 z0 z1 z2 x0 x1 x2 Hwb
                  have Tb_ : bb < wb.heap.size := Nat.lt_of_lt_of_le hbb Tb.size
                  have Tq_ : b < wb.heap.size := Nat.lt_of_lt_of_le hb Tb.size
                  have hgl := Rb.out.f.lt
                  obtain ⟨d0, d1, d2⟩ := Hbd.out.below Tb hbb
                  obtain ⟨B1, hB1⟩ : ∃ B1, rxB q.kind q.turn f.frm = B1 := ⟨_, rfl⟩
                  have HB1 := Lib.hid hB1
                  have hBr := rxB_range (k := q.kind) (t := q.turn) (f := f.frm)
                  rw [hB1] at hBr
                  have hB0 : 0 ≤ B1 ∧ B1 ≤ 15 := ⟨hBr.2.2.2 Hfx.out, hBr.2.1⟩
                  have HX := Lib.hid ((Hp.out.below Tb hb).get Hgq.out)
                  obtain ⟨f0, f1, f2⟩ := Rb.out.f.at_ a ham
                  rw [set_same] at f0 f1 f2
                  have wff : IntKind.i64.wrap f.frm = f.frm := IntWalk.i64_in _ (by omega)
                  clear hB1 hBr
                  go_wp2
                  refine wp_region_class (fun w' => Below wb.heap.size wb w') (by kernel_rfl) (by kernel_rfl) (Below.drew (Below.refl _ _)) ?_
                  repeat (first
                    | go_big_quiet_skip
                    | (go_big_quiet_want; go_big_quiet_op; go_big_quiet_on)
                    | (refine wpQuiet_step (fun K hK => ?_)
                       go_simp
                       refine hK _ ?_
                       clear hK K)
                    | (refine wpQuiet_step (fun K hK => ?_)
                       go_simp
                       apply Exists.intro
                       refine ⟨fun w1 hw1 => ?_, hK _ ?_⟩
                       · first
                         | exact rfl
                         | (go_at_call 34
                            (with_reducible refine (l01Hits_to q b (o + a * 5) f.frm B1 w1 hqk1 hqt1 ⟨ff0, ff1⟩ (HX.out.below hw1 Tq_) (Nat.lt_of_lt_of_le Tq_ hw1.size) HB1.out).mono ?_)
                            exact fun e w2 h => ⟨h.1, kTrans hw1 h.2⟩)
                         | (have e2 := (hw1.cell (p := ⟨bb, bo + 2, none⟩) Tb_).trans d2
                            have g1 := (hw1.cell (p := ⟨gf, a * 3 + 1, none⟩) hgl).trans f1
                            go_simp
                            exact rfl)
                       clear hK K))
                  refine wpQuiet_nil ?_
                  intro wc bc_
                  have Rc := Lib.hid (Rb.out.below bc_)
                  have Tc := kTrans Tb bc_
                  clear Rb Tb bc_ d0 d1 d2 f0 f1 f2 HX Tb_ Tq_ hgl wff
                  obtain ⟨d0, d1, d2⟩ := Hbd.out.below Tc hbb
                  obtain ⟨f0, f1, f2⟩ := Rc.out.f.at_ a ham
                  rw [set_same] at f0 f1 f2
                  obtain ⟨a0, a1, a2, a3, a4⟩ := (Hp.out.below Tc hb).get Hgq.out
                  go_wp2
                  go_quiet (fail)
                  obtain ⟨tk, htk⟩ : ∃ tk, f.tick + q.delay = tk := ⟨_, rfl⟩
                  have htr : 0 ≤ tk ∧ tk ≤ 2809 := by omega
                  have Htk := Lib.hid htk
                  have Rd : Hid (Rows3 (wc.drewN nq) gd gf gn m dn' (set_ F a f) N) := Lib.hid Rc.out.drewN
                  have Td : Below w.heap.size w (wc.drewN nq) := kDrewN Tc nq
                  simp only [htk]
                  clear f0 f1 f2 a0 a1 a2 a3 a4 d0 d1 d2 Rc Tc htk
                  generalize wc.drewN nq = wd_ at *
                  go_wp2
                  -- loop 5
                  go_loopg [17] 4 (fun kg v wr => ∃ s : Nat, v = .int .i64 s ∧ s + kg = 4 ∧ Hid (Rows3 wr gd gf gn m dn' (set_ F a f) (relaxs dn' N (outU lb q a f s))) ∧ Below w.heap.size w wr)
                  case atStart => exact ⟨0, rfl, by omega, Rd, Td⟩
                  case round =>
                    clear Rd Td
                    obtain ⟨s, rfl, hs, hR, hT⟩ := hrel
                    by_cases hlt : s < 4
                    · skip
                      have hsi : (s : Int) < 4 := by omega
                      obtain ⟨M, hM⟩ : ∃ M, relaxs dn' N (outU lb q a f s) = M := ⟨_, rfl⟩
                      have hM1 : relaxs dn' N (outU lb q a f (s + 1)) = relaxs dn' M (outS lb q a f s) := by
                        show relaxs dn' N (outU lb q a f s ++ outS lb q a f s) = _
                        rw [relaxs_append, hM]
                      have hMf := Hfrm.out.relaxs (dn := dn') (L := outU lb q a f s) outU_frm
                      rw [hM] at hR hMf
                      have HM1 := Lib.hid hM1
                      have hbit := rxB_bit Hfx.out s hlt
                      rw [HB1.out] at hbit
                      have hp2 : (2 : Int) ^ s = 1 ∨ (2 : Int) ^ s = 2 ∨ (2 : Int) ^ s = 4 ∨ (2 : Int) ^ s = 8 := by
                        have : s = 0 ∨ s = 1 ∨ s = 2 ∨ s = 3 := by omega
                        rcases this with rfl | rfl | rfl | rfl <;> simp
                      have hdiv : 0 ≤ B1 / 2 ^ s := by rcases hp2 with h | h | h | h <;> rw [h] <;> omega
                      have htm : (B1 / 2 ^ s).tmod 2 = B1 / 2 ^ s % 2 := Int.tmod_eq_emod_of_nonneg hdiv
                      rw [hbit] at htm
                      clear hM hM1 hp2
                      cases hx : rxH q.kind q.turn f.frm s with
                      | false =>
                        rw [hx] at htm hbit
                        simp only [bitI] at htm hbit
                        have HMn : Hid (Rows3 wr gd gf gn m dn' (set_ F a f) (relaxs dn' N (outU lb q a f (s + 1)))) := Lib.hid (by rw [HM1.out, outS, hx]; exact hR.out)
                        clear hR hx
                        go_wp2
                        go_roundg (gk - 1)
                        case measure => omega
                        case rel => exact ⟨s + 1, by go_num, by omega, HMn, hT⟩
                      | true =>
                        rw [hx] at htm hbit
                        simp only [bitI, if_pos] at htm hbit
                        obtain ⟨R, hRf⟩ : ∃ R, findFrom (stepX q.x s) (stepY q.y s) lb 0 = R := ⟨_, rfl⟩
                        obtain ⟨bk, hbk⟩ : ∃ bk : Int, ((s : Int) + 2) % 4 = bk := ⟨_, rfl⟩
                        have hbr : 0 ≤ bk ∧ bk ≤ 3 := by omega
                        have hbt : ((s : Int) + 2).tmod 4 = bk := by rw [Int.tmod_eq_emod_of_nonneg (by omega)]; exact hbk
                        have HM2 : Hid (relaxs dn' N (outU lb q a f (s + 1)) = relaxs dn' M (hitAtL lb (stepX q.x s) (stepY q.y s) ⟨tk, bk, a⟩)) := Lib.hid (by rw [HM1.out, outS, if_pos hx, Htk.out, hbk])
                        have HRf := Lib.hid hRf
                        have HMf := Lib.hid hMf
                        clear hx hRf HM1 hbk hMf
                        go_wp2_with fail
                        refine (l01Near_any bb bo b o m cap wd hi s a q lb _ Hm.out (Hbd.out.below hT hbb) (Hp.out.below hT hb) (Nat.lt_of_lt_of_le hb hT.size) hcap (by omega) ham (fun h => (List.getElem?_eq_some_iff.1 Hgq.out).2) (by omega) (by omega) (by omega) R HRf.out).mono ?_
                        rintro e we ⟨rfl, be_⟩
                        have Re := Lib.hid (hR.out.below be_)
                        have Te := kTrans hT be_
                        clear hR hT be_
                        have Hlt5 := Lib.hid (findFrom_lt (stepX q.x s) (stepY q.y s) lb 0)
                        have Tb_ : bb < we.heap.size := Nat.lt_of_lt_of_le hbb Te.size
                        have Tq_ : b < we.heap.size := Nat.lt_of_lt_of_le hb Te.size
                        have hgl := Re.out.x.lt
                        have hgl0 := Re.out.d.lt
                        obtain ⟨d0, d1, d2⟩ := Hbd.out.below Te hbb
                        by_cases hR0 : 0 ≤ R
                        · skip
                          obtain ⟨k, rfl⟩ : ∃ k : Nat, R = k := ⟨R.toNat, by omega⟩
                          have hkl : k < lb.length := by
                            rcases Hlt5.out with h | h <;> rw [HRf.out] at h <;> omega
                          have hkm : k < m := by rw [← Hm.out]; exact hkl
                          have hki : (k : Int) < (m : Int) := by omega
                          have e0 : decide ((0 : Int) ≤ (k : Int)) = true := by simp
                          have hq2k := Hok.out _ (List.getElem_mem hkl)
                          have hgq2 : lb[k]? = some lb[k] := List.getElem?_eq_getElem hkl
                          generalize lb[k] = q2 at hq2k hgq2
                          have Hgq2 := Lib.hid hgq2
                          have hq2o := of_decide_eq_true hq2k
                          have hq2k1 : 0 ≤ q2.kind ∧ q2.kind ≤ 5 := by omega
                          have hq2t1 : 0 ≤ q2.turn ∧ q2.turn ≤ 3 := by omega
                          have x0 := Re.out.d.at_ k hkm
                          clear hq2k hgq2 hq2o Hlt5
                          cases hd : dn' k with
                          | true =>
                            rw [hd] at x0
                            have HMn : Hid (Rows3 we gd gf gn m dn' (set_ F a f) (relaxs dn' N (outU lb q a f (s + 1)))) := Lib.hid (by
                              rw [HM2.out]
                              cases hg : rxF q2.kind q2.turn bk with
                              | false => rw [hitAtL_stays HRf.out Hgq2.out hg]; exact Re.out
                              | true => rw [hitAtL_falls HRf.out Hgq2.out hg]; exact Re.out.congr (fun _ _ => rfl) (fun i _ => relax_done hd i))
                            clear hd Re
                            go_wp2
                            clear x0 d0 d1 d2
                            have Rg := HMn
                            have Tg := Te
                            clear HMn Te
                            go_roundg (gk - 1)
                            case measure => omega
                            case rel => exact ⟨s + 1, by go_num, by omega, Rg, Tg⟩
                          | false =>
                            rw [hd] at x0
                            obtain ⟨B2, hB2⟩ : ∃ B2, rxB q2.kind q2.turn bk = B2 := ⟨_, rfl⟩
                            have hBr := rxB_range (k := q2.kind) (t := q2.turn) (f := bk)
                            rw [hB2] at hBr
                            have HB2 := Lib.hid hB2
                            have HX := Lib.hid ((Hp.out.below Te hb).get Hgq2.out)
                            clear hB2
                            cases hg : rxF q2.kind q2.turn bk with
                            | false =>
                              have hBn : B2 < 0 := by
                                have h := hBr.2.2
                                rw [hg] at h
                                by_cases h0 : 0 ≤ B2
                                · exact absurd (h.1 h0) (by decide)
                                · omega
                              have e1 : decide (0 ≤ B2) = false := by simp; omega
                              have HMn : Hid (Rows3 we gd gf gn m dn' (set_ F a f) (relaxs dn' N (outU lb q a f (s + 1)))) := Lib.hid (by
                                rw [HM2.out, hitAtL_stays HRf.out Hgq2.out hg]; exact Re.out)
                              clear hd Re hBr hg
                              go_wp2_with fail
                              refine (l01Hits_to q2 b (o + k * 5) bk B2 _ hq2k1 hq2t1 hbr HX.out Tq_ HB2.out).mono ?_
                              rintro e wf ⟨rfl, bf_⟩
                              clear HX
                              have Rg := Lib.hid (HMn.out.below bf_)
                              have Tg := kTrans Te bf_
                              clear HMn Te bf_ d0 d1 d2 x0
                              go_wp2
                              go_roundg (gk - 1)
                              case measure => omega
                              case rel => exact ⟨s + 1, by go_num, by omega, Rg, Tg⟩
                            | true =>
                              have hBn : 0 ≤ B2 := hBr.2.2.2 hg
                              have e1 : decide (0 ≤ B2) = true := by simp; omega
                              have hmf := HMf.out k hkm
                              obtain ⟨R2, hR2⟩ : ∃ R2, decide ((M k).tick < 0 ∨ lessF ⟨tk, bk, a⟩ (M k)) = R2 := ⟨_, rfl⟩
                              have HR2 := Lib.hid hR2
                              have HM3 : Hid (relaxs dn' N (outU lb q a f (s + 1)) = relax dn' M (k, ⟨tk, bk, a⟩)) := Lib.hid (by rw [HM2.out, hitAtL_falls HRf.out Hgq2.out hg]; rfl)
                              have HMx := Lib.hid (Re.out.x.at_ k hkm)
                              have Hd := Lib.hid hd
                              clear hBr hg hR2 HM2 hd
                              go_wp2_with fail
                              refine (l01Hits_to q2 b (o + k * 5) bk B2 _ hq2k1 hq2t1 hbr HX.out Tq_ HB2.out).mono ?_
                              rintro e wf0 ⟨rfl, bf0_⟩
                              have HMy := Lib.hid (HMx.out.below bf0_ hgl)
                              have Re0 := Lib.hid (Re.out.below bf0_)
                              have Te0 := kTrans Te bf0_
                              clear HMx Re Te bf0_ d0 d1 d2 x0 HX
                              go_wp2_with fail
                              refine (l02Better_any tk bk a gn (k * 3) (M k) _ HMy.out hmf R2 HR2.out).mono ?_
                              rintro e wf ⟨rfl, bf_⟩
                              have Rh := Lib.hid (Re0.out.below bf_)
                              have Th := kTrans Te0 bf_
                              clear Re0 Te0 bf_ HMy
                              cases R2 with
                              | false =>
                                have hno : ¬ ((M k).tick < 0 ∨ lessF ⟨tk, bk, a⟩ (M k)) := of_decide_eq_false HR2.out
                                have Rg : Hid (Rows3 wf gd gf gn m dn' (set_ F a f) (relaxs dn' N (outU lb q a f (s + 1)))) := Lib.hid (by rw [HM3.out]; exact Rh.out.congr (fun _ _ => rfl) (fun i _ => relax_no hno i))
                                have Tg := Th
                                clear hno Rh Th
                                go_wp2
                                go_roundg (gk - 1)
                                case measure => omega
                                case rel => exact ⟨s + 1, by go_num, by omega, Rg, Tg⟩
                              | true =>
                                have hyes : (M k).tick < 0 ∨ lessF ⟨tk, bk, a⟩ (M k) := of_decide_eq_true HR2.out
                                obtain ⟨f0, f1, f2⟩ := Rh.out.x.at_ k hkm
                                have z0 := Rh.out.x.fz (k * 3)
                                have z1 := Rh.out.x.fz (k * 3 + 1)
                                have z2 := Rh.out.x.fz (k * 3 + 2)
                                obtain ⟨wg, hwg⟩ : ∃ wg, (((wf.setCell ⟨gn, k * 3, none⟩ (.int .i64 (tk))).setCell ⟨gn, k * 3 + 1, none⟩ (.int .i8 (bk))).setCell ⟨gn, k * 3 + 2, none⟩ (.int .i64 (a))) = wg := ⟨_, rfl⟩
                                have Rg : Hid (Rows3 wg gd gf gn m dn' (set_ F a f) (relaxs dn' N (outU lb q a f (s + 1)))) := Lib.hid (by rw [← hwg, HM3.out]; exact (Rh.out.putN (f := ⟨tk, bk, a⟩) hkm).congr (fun _ _ => rfl) (fun i _ => relax_yes Hd.out hyes i))
                                have Tg : Below w.heap.size w wg := by rw [← hwg]; exact kSet3 Th hwn
                                have Hwg := Lib.hid hwg
                                clear hwg Rh Th hyes
                                go_upto_region 31 with fail
                                rw [Hwg.out]
                                clear f0 f1 f2 z0 z1 z2 Hwg
                                go_wp2
                                go_roundg (gk - 1)
                                case measure => omega
                                case rel => exact ⟨s + 1, by go_num, by omega, Rg, Tg⟩
                        · skip
                          have e0 : decide (0 ≤ R) = false := by simpa using hR0
                          have HMn : Hid (Rows3 we gd gf gn m dn' (set_ F a f) (relaxs dn' N (outU lb q a f (s + 1)))) := Lib.hid (by rw [HM2.out, hitAtL_no (by rw [HRf.out]; omega)]; exact Re.out)
                          clear Re Hlt5 HM2
                          go_wp2
                          have Rg := HMn
                          have Tg := Te
                          clear HMn Te d0 d1 d2
                          go_roundg (gk - 1)
                          case measure => omega
                          case rel => exact ⟨s + 1, by go_num, by omega, Rg, Tg⟩
                    · skip
                      obtain rfl : s = 4 := by omega
                      have HI := Lib.hid Hstep.out
                      rw [Hdn'.out] at HI
                      go_wp2
                      go_roundg (go - 1)
                      case measure => omega
                      case rel => exact ⟨dn', set_ F a f, _, by omega, hR, HI, hT⟩
end Go.Proofs.YtflkfkbdgekpkaaDoor
