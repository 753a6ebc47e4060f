/- The answers of a machine in all rows: the program's answers, the model's l03All. -/
import Derived.Test.YthohngkdfhpieaaGreatDoorAm
namespace Go.Proofs.YthohngkdfhpieaaGreatDoor
open Go.ChangeShapes Go.WideShapes Go.ChangeAt Go.RowKit Go.Shelf Go.Joins Go.Deep
set_option linter.unusedVariables false
set_option linter.unusedSimpArgs false
attribute [local go_sem] Oper.semAt_some

theorem own_ne {w : World} {base size k : Nat} {e : TypeId} {v : Value} {xs : List Value} (h : w.ownsRow base e size v k xs) {j : Nat} {o : Obj} (hj : w.heap[j]? = some o) (ho : o.isCells = false) : v.ownBlock ≠ some j := by
  rcases h.2 with ⟨rfl, _⟩ | ⟨g, cap, cur, rfl, hb, hgb, _⟩
  · simp [Value.ownBlock]
  · intro e'
    obtain rfl : g = j := by simpa [Value.ownBlock] using e'
    rw [hgb] at hj; cases hj; cases ho
theorem own_low {w : World} {base size k : Nat} {e : TypeId} {v : Value} {xs : List Value} (h : w.ownsRow base e size v k xs) {j : Nat} (hj : j < base) : v.ownBlock ≠ some j := by
  rcases h.2 with ⟨rfl, _⟩ | ⟨g, cap, cur, rfl, hb, hgb, _⟩
  · simp [Value.ownBlock]
  · intro e'
    obtain rfl : g = j := by simpa [Value.ownBlock] using e'
    omega
/-- what goes plainly goes in a round, if it defers nothing -/
theorem operIn_of_wp {l n : Nat} {P : Program} {o : Oper} {a : Act} {w : World} {K K' : Act → World → Prop} {Q : Exit → Act → World → Prop} (hd : ∀ c, o.op ≠ .defer c) (hKK : ∀ a w, K a w → K' a w) (h : Oper.wp P o a w K Q) :
    Oper.wpIn (Fence.wide.inRound l) n P o a w K' Q := by
  refine ⟨fun f _ => trivial, ?_⟩
  rw [Oper.semAt_eq _ _ _ hd]
  unfold Oper.wp at h
  generalize (execOp a.eval o).run P w = r at h ⊢
  cases r with
  | ok x w' =>
    cases x with
    | value v => exact hKK _ _ h
    | skip => exact hKK _ _ h
    | defer d => exact hKK _ _ h
    | enter f args =>
      refine ⟨fun h => (by cases h), (CallsIn.inRound l (callsIn_wide.2 h)).mono (fun e w'' he => ?_)⟩
      cases e with
      | returned v => exact hKK _ _ he
      | panicked c => exact he
      | outgrown => exact he
    | row r args => exact ⟨fun h => (by cases h), fun c cs _ => let ⟨v, w2, r1, s1⟩ := h c cs; ⟨v, w2, hKK _ _ r1, stepsIn_wide.2 s1⟩⟩
    | _ => exact h.elim
  | halt q w' =>
    cases q with
    | panic v => exact h
    | _ => exact h.elim
theorem anyIn_of_any {l n : Nat} {P : Program} {md : Region.Mode} {ops : Array Oper} {Q : Exit → Act → World → Prop} (hnd : ∀ (i : Nat) (o : Oper), ops[i]? = some o → ∀ c, o.op ≠ .defer c) (hlo : ¬ LetsOut Q) :
    ∀ (fuel : Nat) (listed : Array Bool) (a : Act) (w : World), wpAny P md ops Q fuel listed a w → wpAnyIn (Fence.wide.inRound l) n P md ops Q fuel listed a w
  | 0, _, _, _, h => h
  | fuel + 1, listed, a, w, h => by
    refine ⟨h.1, fun i hi => ?_⟩
    have h2 := h.2 i hi
    have ih := fun a w => anyIn_of_any (l := l) (n := n) (P := P) (md := md) (Q := Q) hnd hlo fuel (listed.setIfInBounds i true) a w
    unfold wpOp at h2
    unfold wpOpIn
    cases e : ops[i]? with
    | none => simp only [e] at h2 ⊢; exact ih _ _ h2
    | some o =>
      simp only [e] at h2 ⊢
      by_cases hw : Region.wanted o (yielded ops a.tmps) = true
      · rw [if_pos hw] at h2 ⊢
        rcases h2 with h2 | ⟨_, h2⟩
        · exact operIn_of_wp (hnd i o e) ih h2
        · exact absurd h2 hlo
      · rw [if_neg hw] at h2 ⊢
        exact ⟨fun f _ => trivial, ih _ _ h2⟩
theorem regionIn_of_H {l n id : Nat} {P : Program} {ops : Array Oper} {Q : Exit → Act → World → Prop} {a : Act} {w : World} (S : World → Prop) (hm : P.follows .mixedOrders = true) (hnd : ∀ (i : Nat) (o : Oper), ops[i]? = some o → ∀ c, o.op ≠ .defer c) (hlo : ¬ LetsOut Q)
    (hS : S w.drew) (h : S w.drew → wpAnyH P .any ops Q S ops.size (Array.replicate ops.size false) a w.drew) : (Code.region id ops true).wpIn (Fence.wide.inRound l) n P Q a w :=
  wpIn_region_any hm (anyIn_of_any hnd hlo _ _ _ _ (wpAny_of_held _ _ _ _ (h hS)))
def isDefer (o : Oper) : Bool := match o.op with | .defer _ => true | _ => false
theorem no_defer {ops : List Oper} (h : ops.all (fun o => !isDefer o) = true) : ∀ (i : Nat) (o : Oper), ops.toArray[i]? = some o → ∀ c, o.op ≠ .defer c := by
  intro i o hi c hc
  have hm : o ∈ ops := by simpa using Array.mem_of_getElem? hi
  have := List.all_eq_true.1 h o hm
  simp [isDefer, hc] at this
set_option maxRecDepth 100000 in
set_option maxHeartbeats 8000000 in
theorem l03All_any (bb b k q m n r : Nat) (wd hi : Int) (l : List Pc) (p : List Po) (c : List Cl) (w : World) (hmc : McAt w bb wd hi (.slice (some ⟨b, 0, none⟩) m m) (.slice (some ⟨k, 0, none⟩) n n) (.slice (some ⟨q, 0, none⟩) r r)) (hp : PcsAt w b 0 l) (hg : PosAt w k 0 p) (hj : ClsAt w q 0 c) (zb : b < w.heap.size) (zk : k < w.heap.size) (zq : q < w.heap.size)
    (hm : l.length = m) (hn1 : p.length = n) (hr0 : c.length = r) (h6 : n ≤ 6) (hr8 : r ≤ 8) (F : Nat → List Fl) (hF : AnsAt wd hi l p c n F) (N : Nat) (hN : 2 ^ n = N) :
    Calls Tryz.prog 94 #[.pointer (some ⟨bb, 0, none⟩)] w fun e w' => ∃ v, e = .returned v ∧ w'.ownsRow w.heap.size 2 1 v N (flatIn (ansL l c F N)) ∧ v ≠ .slice none 0 0 ∧ Below w.heap.size w w' := by
  obtain ⟨hN64, hN1, hpn⟩ := pow_N h6 hN
  obtain ⟨i0, hi0, hz0, hzz1, hzz2⟩ := info_parts info_i64n
  have Hi := Lib.hid hi0
  have Hz0 := Lib.hid hz0
  have Hz1 := Lib.hid hzz1
  have Hz2 := Lib.hid hzz2
  have lD := hmc.lt
  have HM0 := Lib.hid (fun W2 (h2 : Below w.heap.size w W2) => hmc.below h2 lD)
  have HP := Lib.hid (fun W2 (h : Below w.heap.size w W2) => hp.below h zb)
  have HG := Lib.hid (fun W2 (h : Below w.heap.size w W2) => hg.below h zk)
  have HC := Lib.hid (fun W2 (h : Below w.heap.size w W2) => hj.below h zq)
  have HR := Lib.hid (fun W2 (h2 : Below w.heap.size w W2) => by have h := l03Rows_any bb n wd hi _ _ _ _ W2 (HM0.out W2 h2) h6; rw [hpn] at h; exact h)
  have HFF := Lib.hid hF
  have Hn := Lib.hid hn1
  have Hm := Lib.hid hm
  have Hr := Lib.hid hr0
  obtain ⟨x0, x1, x2, x3, x4⟩ := hmc
  clear hp hg hj hi0 hz0 hzz1 hzz2 hF hn1 hm hr0 hN hpn
  go_enter Tryz.func94, Tryz.ntmps94
  go_wp2_with (refine wpList_make_full _ rfl _ _ 31 rfl w.heap.size 2 i0 _ 1 Tryz.underlying31 Hi.out Hz0.out Hz1.out _ _ _ _ n rfl rfl rfl rfl ?c1 ?c2 ?c3 ?_)
  case c1 => rw [Hz2.out]; omega
  case c2 => unfold maxLen; omega
  case c3 => exact Nat.le_refl _
  intro w2 hown hgr
  obtain ⟨hz, hzl, _⟩ := zeros_made hown
  have hB2 : Below w.heap.size w w2 := (Below.refl _ _).grown hgr (Nat.le_refl _) (by intro k hk; cases hk)
  have HZ := Lib.hid hz
  have own0 : Hid ((w2.alloc (.cells #[] 2)).ownsRow w2.heap.size 2 1 (.slice (some ⟨w2.heap.size, 0, none⟩) 0 0) 0 (flatIn (ansL l c F 0))) := Lib.hid (owns_new (Nat.le_refl _) (heap_alloc_new _ _))
  have hk0 : Below w2.heap.size w2 (w2.alloc (.cells #[] 2)) := kAlloc (Below.refl _ _) _
  clear hown hgr hz x0 x1 x2 x3 x4
  go_wp2
  go_loopw [4, 5] (fun out i wr => ∃ (j : Nat) (g cp : Nat), j ≤ N ∧ i = .int .i64 j ∧ out = .slice (some ⟨g, 0, none⟩) j cp ∧ Hid (wr.ownsRow w2.heap.size 2 1 out j (flatIn (ansL l c F j))) ∧ Below w2.heap.size w2 wr) (fun _ i _ => N - (intOf i).toNat)
  case atStart => exact ⟨0, _, _, by omega, rfl, rfl, own0, hk0⟩
  case round =>
    clear own0 hk0
    obtain ⟨j, g, cp, hj, rfl, rfl, hown, hbr⟩ := hrel
    have kWr := kTrans hB2 hbr
    by_cases hlt : j < N
    · go_wp2_with fail
      refine (HR.out wr kWr).mono ?_
      rintro e w' ⟨rfl, rfl⟩
      have HO := Lib.hid (l03Outputs_any bb b k q w.heap.size m n r wd hi j l p c (zeros n) wr (HM0.out _ kWr) (HP.out _ kWr) (HG.out _ kWr) (HC.out _ kWr) (HZ.out.below hbr hzl) (Nat.lt_of_lt_of_le zb kWr.size) (Nat.lt_of_lt_of_le zk kWr.size) (Nat.lt_of_lt_of_le zq kWr.size) (Nat.lt_of_lt_of_le hzl hbr.size) Hm.out Hn.out Hr.out (zeros_length n) h6 hr8 (by omega) (zeros_late n) (F j) (HFF.out j) _ rfl (ansO l c F j) rfl)
      go_wp2_with fail
      refine HO.out.mono ?_
      rintro e w5 ⟨rfl, hb5⟩
      have T5 := kTrans hbr hb5
      have hown5 := Lib.hid (owns_below hown.out hb5)
      have Hblk := Lib.hid (owns_block hown5.out)
      obtain ⟨oj, hoj⟩ : ∃ oj, ansO l c F j = oj := ⟨_, rfl⟩
      have HL : Hid (ansL l c F (j + 1) = ansL l c F j ++ [oj]) := Lib.hid (by rw [ansL_succ, hoj])
      rw [hoj]
      clear HO hb5 hown hoj
      go_wp2_with (at_builtin; refine wpList_append_own _ rfl _ _ 31 rfl w2.heap.size 2 i0 _ 1 8 Tryz.underlying31 Hi.out Hz0.out Hz1.out Hz2.out rfl (by decide) (.slice (some ⟨g, 0, none⟩) j cp) j (flatIn (ansL l c F j)) rfl (owns_below hown5.out (kAlloc (Below.refl _ _) _)) ⟨w5.heap.size, 0, none⟩ 1 1 [.int .i64 oj] rfl rfl (World.news_of_block (cs := #[.int .i64 oj]) (heap_alloc_new _ _)) (by simp [Value.oneCell']) ?qc4 ?qc5 ?qc6 ?_)
      case qc4 => unfold maxLen; omega
      case qc5 => omega
      case qc6 => have := T5.size; simp; omega
      intro v6 w6 hown6 hgr hnil
      obtain ⟨g6, c6, rfl⟩ := ownsRow_succ hown6
      have Hown6 := Lib.hid (show w6.ownsRow w2.heap.size 2 1 (.slice (some ⟨g6, 0, none⟩) (j + 1) c6) (j + 1) (flatIn (ansL l c F (j + 1))) by rw [HL.out, flatIn_end]; exact hown6)
      have T6 : Below w2.heap.size w2 w6 := grown_below (v := .slice (some ⟨g, 0, none⟩) j cp) (kAlloc T5 _) hgr (by intro q hq; exact (Hblk.out q hq).1)
      clear hown6 hgr hnil
      go_wp2
      exact ⟨⟨j + 1, g6, c6, by omega, by go_num, rfl, Hown6, T6⟩, by simp [intOf]; omega⟩
    · obtain rfl : j = N := by omega
      go_wp2_with fail
      refine (HR.out wr kWr).mono ?_
      rintro e w' ⟨rfl, rfl⟩
      have HW2 := Lib.hid (owns_mono hB2.size hown.out)
      clear hown
      go_wp2
      go_ret
      exact ⟨_, rfl, HW2.out, by simp, kWr⟩
set_option maxRecDepth 100000 in
set_option maxHeartbeats 8000000 in
theorem answers_any (B b k q m n r : Nat) (wd hi : Int) (l : List Pc) (p : List Po) (c : List Cl) (w : World) (hd : DvAt w B b k q l p c) (hm : l.length = m) (hn1 : p.length = n) (hr0 : c.length = r) (h6 : n ≤ 6) (hr8 : r ≤ 8) (F : Nat → List Fl) (hF : AnsAt wd hi l p c n F) (N : Nat) (hN : 2 ^ n = N) :
    Calls Tryz.prog 65 #[.agg #[.int .i8 wd, .int .i8 hi, .map (some B), .int .i8 wd, .int .i8 hi, .slice (some ⟨b, 0, none⟩) m m, .slice (some ⟨k, 0, none⟩) n n, .slice (some ⟨q, 0, none⟩) r r]] w fun e w' => ∃ v, e = .returned v ∧ w'.ownsRow w.heap.size 2 1 v N (flatIn (ansL l c F N)) ∧ Below w.heap.size w w' := by
  obtain ⟨hN64, hN1, hpn⟩ := pow_N h6 hN
  have hmx : Tryz.prog.follows .mixedOrders = true := by kernel_rfl
  obtain ⟨i0, hi0, hz0, hzz1, hzz2⟩ := info_parts info_i64n
  have Hi := Lib.hid hi0
  have Hz0 := Lib.hid hz0
  have Hz1 := Lib.hid hzz1
  have Hz2 := Lib.hid hzz2
  have HD := Lib.hid (fun W2 (h2 : Below w.heap.size w W2) => hd.below h2)
  have HFF := Lib.hid hF
  have Hn := Lib.hid hn1
  have Hm := Lib.hid hm
  have Hr := Lib.hid hr0
  have HNN := Lib.hid hN
  have HA := Lib.hid (numsL_ans l c F hN64)
  clear hd hi0 hz0 hzz1 hzz2 hF hn1 hm hr0 hN hpn
  refine (callsIn_wide (n := 8)).1 ?_
  refine callsIn_of_wp_marks Tryz.func65 rfl trivial ?_ rfl
  simp only [Tryz.ntmps65, List.size_toArray, List.length_cons, List.length_nil, Nat.reduceAdd, Nat.reduceSub, Array.replicate_succ, Array.replicate_zero, List.push_toArray, List.append_toArray, List.nil_append, List.cons_append]
  gi_wp2_with fail
  refine ⟨trivial, (callsIn_wide.2 (rows_any wd hi B m n r _ _ _ _ _ _ _)).mono ?_⟩
  rintro e w1 ⟨rfl, rfl⟩
  gi_wp2
  obtain ⟨W0, hW0⟩ : ∃ W0, ((w.alloc (.cells #[.int .i8 wd, .int .i8 hi, .map (some B), .int .i8 wd, .int .i8 hi, .slice (some ⟨b, 0, none⟩) m m, .slice (some ⟨k, 0, none⟩) n n, .slice (some ⟨q, 0, none⟩) r r] 89)).alloc (.cells #[.slice none 0 0] 31)).alloc (.cells #[.int .i8 wd, .int .i8 hi, .map (some B), .int .i8 wd, .int .i8 hi, .slice (some ⟨b, 0, none⟩) m m, .slice (some ⟨k, 0, none⟩) n n, .slice (some ⟨q, 0, none⟩) r r] 89) = W0 := ⟨_, rfl⟩
  have k0 : Below w.heap.size w W0 := by rw [← hW0]; exact kAlloc (kAlloc (kAlloc (Below.refl _ _) _) _) _
  have hsz : W0.heap.size = w.heap.size + 1 + 1 + 1 := by rw [← hW0]; simp
  have bD : W0.heap[w.heap.size]? = some (.cells #[.int .i8 wd, .int .i8 hi, .map (some B), .int .i8 wd, .int .i8 hi, .slice (some ⟨b, 0, none⟩) m m, .slice (some ⟨k, 0, none⟩) n n, .slice (some ⟨q, 0, none⟩) r r] 89 (0, 0)) := by
    rw [← hW0]; exact (Below.heap_alloc _ _ _ (by simp; omega)).trans ((Below.heap_alloc _ _ _ (by simp)).trans (heap_alloc_new _ _))
  have bV : Boxed W0 (w.heap.size + 1) 31 (.slice none 0 0) := by
    rw [← hW0]
    have h := Boxed.new (w.alloc (.cells #[.int .i8 wd, .int .i8 hi, .map (some B), .int .i8 wd, .int .i8 hi, .slice (some ⟨b, 0, none⟩) m m, .slice (some ⟨k, 0, none⟩) n n, .slice (some ⟨q, 0, none⟩) r r] 89)) 31 (.slice none 0 0)
    rw [World.size_alloc] at h
    exact h.alloc _
  have bR : W0.heap[w.heap.size + 1 + 1]? = some (.cells #[.int .i8 wd, .int .i8 hi, .map (some B), .int .i8 wd, .int .i8 hi, .slice (some ⟨b, 0, none⟩) m m, .slice (some ⟨k, 0, none⟩) n n, .slice (some ⟨q, 0, none⟩) r r] 89 (0, 0)) := by
    rw [← hW0]
    have h := heap_alloc_new ((w.alloc (.cells #[.int .i8 wd, .int .i8 hi, .map (some B), .int .i8 wd, .int .i8 hi, .slice (some ⟨b, 0, none⟩) m m, .slice (some ⟨k, 0, none⟩) n n, .slice (some ⟨q, 0, none⟩) r r] 89)).alloc (.cells #[.slice none 0 0] 31)) (.cells #[.int .i8 wd, .int .i8 hi, .map (some B), .int .i8 wd, .int .i8 hi, .slice (some ⟨b, 0, none⟩) m m, .slice (some ⟨k, 0, none⟩) n n, .slice (some ⟨q, 0, none⟩) r r] 89)
    simpa only [World.size_alloc] using h
  rw [hW0]
  have HBD := Lib.hid bD
  clear hW0 bD
  refine wpIn_rangeFunc_ownH rfl (by omega) (gf := 86) (lb := #[.pointer (some ⟨w.heap.size + 1 + 1, 0, none⟩)]) rfl trivial enters_rows
    (rows_stops (fun k => k = w.heap.size + 1 + 1) 7 (by omega) (w.heap.size + 1 + 1) B m n r _ _ _ _ _ _ wd hi W0 h6 N HNN.out bR rfl (fun k hk => by rw [hk, hsz]; omega)) KS.trans
    (fun W l o o' hl ho _ _ => ⟨(grownBy_putObj' W l o').size, fun k hk => (grownBy_putObj' W l o').block k (by have := blk_lt ho; rw [hk]; omega) (fun e => by cases e; omega)⟩)
    (Below.refl _ _) (fun _ => rfl)
    (fun (pre : List R64) W => (∃ v, Boxed W (w.heap.size + 1) 31 v ∧ W.ownsRow W0.heap.size 2 1 v pre.length (flatIn (pre.map fun x => ansO l c F x.v)) ∧ True) ∧ W0.grownBy W (some (w.heap.size + 1)))
    (fun _ _ _ => False)
    (OwnFrom.and (Own.from (holdsRow_own W0.heap.size (w.heap.size + 1) 31 2 1 (fun (pre : List R64) => pre.length) (fun (pre : List R64) => flatIn (pre.map fun x => ansO l c F x.v)) (fun _ _ => True)) _) (grown_own (Nat.le_refl _)))
    (fun _ _ _ _ _ hs _ _ => hs)
    ⟨⟨_, bV, nilI_own0, trivial⟩, ⟨rfl, rfl, rfl, Nat.le_refl _, fun _ _ _ => rfl⟩⟩
    (fun x a' W => a' = { tmps := #[.agg #[.int .i8 wd, .int .i8 hi, .map (some B), .int .i8 wd, .int .i8 hi, .slice (some ⟨b, 0, none⟩) m m, .slice (some ⟨k, 0, none⟩) n n, .slice (some ⟨q, 0, none⟩) r r], .pointer (some ⟨w.heap.size, 0, none⟩), .slice none 0 0, .pointer (some ⟨w.heap.size + 1, 0, none⟩), .int .i64 (x.v : Int), .agg #[.int .i8 wd, .int .i8 hi, .map (some B), .int .i8 wd, .int .i8 hi, .slice (some ⟨b, 0, none⟩) m m, .slice (some ⟨k, 0, none⟩) n n, .slice (some ⟨q, 0, none⟩) r r], .func (.func 86) #[] #[.pointer (some ⟨w.heap.size + 1 + 1, 0, none⟩)], .int .i64 (x.v : Int), undef, undef, undef, undef, undef, undef, undef], defers := [] })
    (fun x a' _ _ _ _ hs _ _ => hs)
    ?assign ?body ?done ?stop
  case assign =>
    rintro lp pre x W K hi hK
    have HK := Lib.hid hK
    have HI := Lib.hid hi
    clear hK hi
    unfold encR
    gi_wp2
    exact HK.out _ _ ((KeepsOthers.refl _).from _) (KS.refl _ _) HI.out rfl
  case body =>
    rintro lp pre x a' W hlp _ ⟨⟨v, hv, hown, _⟩, hg⟩ rfl hlt
    obtain ⟨ua, uc, rfl⟩ := owns_slice hown
    have kW : Below w.heap.size w W := k0.grown hg k0.size (fun k e => by cases e; omega)
    have hszW : W0.heap.size ≤ W.heap.size := hg.size
    have bDW := (hg.block w.heap.size (by omega) (by intro e; injection e with e; omega)).trans HBD.out
    have cv := hv.cell
    have c0 : W.cell? ⟨w.heap.size, 0, none⟩ = some (.int .i8 wd) := cell_of_row _ _ 0 _ _ _ (bDW)
    have c1 : W.cell? ⟨w.heap.size, 1, none⟩ = some (.int .i8 hi) := cell_of_row _ _ 1 _ _ _ (bDW)
    have c2 : W.cell? ⟨w.heap.size, 2, none⟩ = some (.map (some B)) := cell_of_row _ _ 2 _ _ _ (bDW)
    have c3 : W.cell? ⟨w.heap.size, 3, none⟩ = some (.int .i8 wd) := cell_of_row _ _ 3 _ _ _ (bDW)
    have c4 : W.cell? ⟨w.heap.size, 4, none⟩ = some (.int .i8 hi) := cell_of_row _ _ 4 _ _ _ (bDW)
    have c5 : W.cell? ⟨w.heap.size, 5, none⟩ = some (.slice (some ⟨b, 0, none⟩) m m) := cell_of_row _ _ 5 _ _ _ (bDW)
    have c6 : W.cell? ⟨w.heap.size, 6, none⟩ = some (.slice (some ⟨k, 0, none⟩) n n) := cell_of_row _ _ 6 _ _ _ (bDW)
    have c7 : W.cell? ⟨w.heap.size, 7, none⟩ = some (.slice (some ⟨q, 0, none⟩) r r) := cell_of_row _ _ 7 _ _ _ (bDW)
    have hx64 := x.lt
    have HO := Lib.hid (fun W3 (h3 : Below W.heap.size W W3) => outputsN_any B b k q m n r wd hi x.v l p c (zeros n) W3 (HD.out _ (kTrans kW h3)) Hm.out Hn.out Hr.out (zeros_length n) (noneTold W3) h6 hr8 (by omega) (zeros_late n) (F x.v) (HFF.out x.v) _ rfl (ansO l c F x.v) rfl)
    obtain ⟨oj, hoj⟩ : ∃ oj, ansO l c F x.v = oj := ⟨_, rfl⟩
    have HL : Hid ((pre ++ [x]).map (fun x => ansO l c F x.v) = pre.map (fun x => ansO l c F x.v) ++ [oj]) := Lib.hid (by rw [List.map_append, ← hoj]; rfl)
    rw [hoj] at HO
    have HBD2 := Lib.hid bDW
    have HV := Lib.hid hv
    have HOW := Lib.hid hown
    have HGR := Lib.hid hg
    have hpl : pre.length ≤ 64 := by omega
    obtain ⟨A, hA⟩ : ∃ A, pre.map (fun x => ansO l c F x.v) = A := ⟨_, rfl⟩
    rw [hA] at HL HOW
    clear hoj hv hown hg bDW hA
    gi_wp2
    refine regionIn_of_H (fun W' => W'.heap[w.heap.size]? = some (.cells #[.int .i8 wd, .int .i8 hi, .map (some B), .int .i8 wd, .int .i8 hi, .slice (some ⟨b, 0, none⟩) m m, .slice (some ⟨k, 0, none⟩) n n, .slice (some ⟨q, 0, none⟩) r r] 89 (0, 0))) hmx (no_defer (by kernel_rfl)) (fun h => by obtain ⟨_, _, h⟩ := h; exact h) HBD2.out (fun hHeld => ?_)
    refine wpAnyH_take (i := 1) (v := .agg #[.int .i8 wd, .int .i8 hi, .map (some B), .int .i8 wd, .int .i8 hi, .slice (some ⟨b, 0, none⟩) m m, .slice (some ⟨k, 0, none⟩) n n, .slice (some ⟨q, 0, none⟩) r r]) rfl (by kernel_rfl) (by kernel_rfl) (by kernel_rfl) (fun _ _ _ h => h) (Or.inl ⟨by rfl, fun w7 hSw => ?_⟩) (by assumption) ?_
    · clear c0 c1 c2 c3 c4 c5 c6 c7
      have c0 : w7.cell? ⟨w.heap.size, 0, none⟩ = some (.int .i8 wd) := cell_of_row _ _ 0 _ _ _ (hSw)
      have c1 : w7.cell? ⟨w.heap.size, 1, none⟩ = some (.int .i8 hi) := cell_of_row _ _ 1 _ _ _ (hSw)
      have c2 : w7.cell? ⟨w.heap.size, 2, none⟩ = some (.map (some B)) := cell_of_row _ _ 2 _ _ _ (hSw)
      have c3 : w7.cell? ⟨w.heap.size, 3, none⟩ = some (.int .i8 wd) := cell_of_row _ _ 3 _ _ _ (hSw)
      have c4 : w7.cell? ⟨w.heap.size, 4, none⟩ = some (.int .i8 hi) := cell_of_row _ _ 4 _ _ _ (hSw)
      have c5 : w7.cell? ⟨w.heap.size, 5, none⟩ = some (.slice (some ⟨b, 0, none⟩) m m) := cell_of_row _ _ 5 _ _ _ (hSw)
      have c6 : w7.cell? ⟨w.heap.size, 6, none⟩ = some (.slice (some ⟨k, 0, none⟩) n n) := cell_of_row _ _ 6 _ _ _ (hSw)
      have c7 : w7.cell? ⟨w.heap.size, 7, none⟩ = some (.slice (some ⟨q, 0, none⟩) r r) := cell_of_row _ _ 7 _ _ _ (hSw)
      clear hSw
      go_simp
    try simp only [Act.put, List.setIfInBounds_toArray, List.set_cons_zero, List.set_cons_succ]
    refine wpAnyH_take (i := 2) (v := .int .i64 (x.v : Int)) rfl (by kernel_rfl) (by kernel_rfl) (by kernel_rfl) (fun _ _ _ h => h) (Or.inl ⟨by rfl, fun w7 hSw => ?_⟩) (by assumption) ?_
    · clear hSw
      go_simp
    try simp only [Act.put, List.setIfInBounds_toArray, List.set_cons_zero, List.set_cons_succ]
    clear c0 c1 c2 c3 c4 c5 c6 c7
    refine wpAnyH_ready (rs := [0, 3]) (by kernel_rfl) (by simp) ?_
    refine AllReadyH.cons rfl (fun K hK => ?_) (AllReadyH.cons rfl (fun K hK => ?_) AllReadyH.nil)
    · skip
      go_simp
      refine hK.out _ _ (by assumption) (fun hHeld => ?_)
      clear hK K
      refine wpAnyH_ready (rs := [3]) (by kernel_rfl) (by simp) ?_
      refine AllReadyH.cons rfl (fun K hK => ?_) AllReadyH.nil
      go_simp
      go_wp2_with (go_at_call 67
                   refine (HO.out _ (by repeat (first | with_reducible exact Below.refl _ _ | (with_reducible refine kSet ?_ ?hB _; case hB => (simp; try omega)) | with_reducible refine kAlloc ?_ _ | with_reducible refine Below.drew ?_ | with_reducible refine kDrewN ?_ _ | with_reducible refine kTrans ?_ (by assumption)))).mono ?_
                   rintro e W5 ⟨rfl, hb5⟩
                   have kk5 : Below W.heap.size W W5 := kTrans (Below.drew (Below.refl _ _)) hb5
                   have hv5 : Boxed W5 (w.heap.size + 1) 31 (.slice ua pre.length uc) := blk_below HV.out kk5
                   have cv5 := hv5.cell
                   have KK5 := Lib.hid kk5
                   clear kk5 hb5 hv5)
      refine hK.out _ _ (show W5.heap[w.heap.size]? = _ from blk_below HBD2.out KK5.out) (fun hHeld => ?_)
      clear hK K
      refine wpAnyH_ready (rs := [4]) (by kernel_rfl) (by simp) ?_
      refine AllReadyH.cons rfl (fun K hK => ?_) AllReadyH.nil
      go_simp
      have cva : (W5.alloc (.cells #[.int .i64 oj] 2)).cell? ⟨w.heap.size + 1, 0, none⟩ = some (.slice ua pre.length uc) := ((show Boxed W5 (w.heap.size + 1) 31 (.slice ua pre.length uc) from blk_below HV.out KK5.out).alloc _).cell
      refine hK.out _ _ (show _ = _ from (Below.heap_alloc _ _ _ (blk_lt (blk_below HBD2.out KK5.out))).trans (blk_below HBD2.out KK5.out)) (fun hHeld => ?_)
      clear hK K
      refine wpAnyH_ready (rs := [5]) (by kernel_rfl) (by simp) ?_
      refine AllReadyH.cons rfl (fun K hK => ?_) AllReadyH.nil
      refine step_append_own rfl _ _ 31 rfl W0.heap.size 2 i0 _ 1 8 Tryz.underlying31 Hi.out Hz0.out Hz1.out Hz2.out rfl (by decide) (.slice ua pre.length uc) pre.length (flatIn A) rfl (owns_below HOW.out (kAlloc KK5.out _)) ⟨W5.heap.size, 0, none⟩ 1 1 [.int .i64 oj] rfl rfl (World.news_of_block (cs := #[.int .i64 oj]) (heap_alloc_new _ _)) (by simp [Value.oneCell']) (by unfold maxLen; omega) (by omega) (by have := KK5.out.size; simp; omega) ?_
      intro v6 w6 hown6_ hgr_ _
      obtain ⟨g6, c6, rfl⟩ := ownsRow_succ hown6_
      have hv6_ : Boxed w6 (w.heap.size + 1) 31 (.slice ua pre.length uc) := ((show Boxed W5 (w.heap.size + 1) 31 (.slice ua pre.length uc) from blk_below HV.out KK5.out).alloc _).kept hgr_ (fun e' => own_low HOW.out (by omega) e'.symm)
      have cv6 := hv6_.cell
      have cf6 := hv6_.frozen
      have hd6 : w6.heap[w.heap.size]? = some (.cells #[.int .i8 wd, .int .i8 hi, .map (some B), .int .i8 wd, .int .i8 hi, .slice (some ⟨b, 0, none⟩) m m, .slice (some ⟨k, 0, none⟩) n n, .slice (some ⟨q, 0, none⟩) r r] 89 (0, 0)) := (hgr_.block w.heap.size (by have := blk_lt (blk_below HBD2.out KK5.out); simp; omega) (fun e' => own_low HOW.out (by omega) e'.symm)).trans ((Below.heap_alloc _ _ _ (blk_lt (blk_below HBD2.out KK5.out))).trans (blk_below HBD2.out KK5.out))
      have hown6 := Lib.hid hown6_
      have hgr := Lib.hid hgr_
      have hv6 := Lib.hid hv6_
      have HD6 := Lib.hid hd6
      clear hown6_ hgr_ hv6_ hd6
      refine hK.out _ _ HD6.out (fun hHeld => ?_)
      clear hK K
      refine wpAnyH_ready (rs := [6]) (by kernel_rfl) (by simp) ?_
      refine AllReadyH.cons rfl (fun K hK => ?_) AllReadyH.nil
      go_simp
      refine hK.out _ _ (show _ = _ from blk_set HD6.out (by simp)) (fun hHeld => ?_)
      clear hK K
      refine wpAnyH_done (by kernel_rfl) ?_ _
      gi_wp2
      have hlo : ∀ j, j < W.heap.size → j ≠ w.heap.size + 1 → (Value.slice ua pre.length uc).ownBlock ≠ some j → (w6.setCell ⟨w.heap.size + 1, 0, none⟩ (.slice (some ⟨g6, 0, none⟩) (pre.length + 1) c6)).heap[j]? = W.heap[j]? := fun j hj hne hno =>
        (Below.heap_setCell _ _ _ _ hne).trans ((hgr.out.block j (by have := KK5.out.size; simp; omega) (fun e' => hno e'.symm)).trans ((Below.heap_alloc _ _ _ (Nat.lt_of_lt_of_le hj KK5.out.size)).trans (KK5.out.block j hj)))
      have hsz6 : W.heap.size ≤ w6.heap.size := Nat.le_trans KK5.out.size (Nat.le_trans (by simp) hgr.out.size)
      refine ⟨⟨by simpa [World.setCell] using hsz6, fun j o hjB hj ho => ?_⟩, ⟨by simpa [World.setCell] using hsz6, fun j hj => ?_⟩, ⟨_, hv6.out.set _, ?_, trivial⟩, ?_⟩
      · exact (hlo j (blk_lt hj) (fun e' => by have h2 := HV.out; rw [e'] at hj; unfold Boxed at h2; rw [h2] at hj; cases hj; cases ho) (own_ne HOW.out hj ho)).trans hj
      · exact hlo j (by rw [hj]; omega) (by rw [hj]; omega) (own_low HOW.out (by rw [hj]; omega))
      · rw [HL.out, List.length_append, flatIn_end]
        exact hown6.out.kept (grownBy_setCell' w6 (w.heap.size + 1) _) (.inr (fun e' => own_low hown6.out (j := w.heap.size + 1) (by omega) e'))
      · refine ⟨?_, ?_, ?_, by simpa [World.setCell] using Nat.le_trans hszW hsz6, fun j hj hne => ?_⟩
        · exact hgr.out.os.trans (KK5.out.os.trans HGR.out.os)
        · exact hgr.out.tape.trans (KK5.out.tape.trans HGR.out.tape)
        · exact hgr.out.output.trans (KK5.out.output.trans HGR.out.output)
        · exact (hlo j (by omega) (fun e' => hne (by rw [e'])) (own_low HOW.out hj)).trans (HGR.out.block j hj hne)
    · skip
      go_simp
      go_wp2_with (go_at_call 67
                   refine (HO.out _ (by repeat (first | with_reducible exact Below.refl _ _ | (with_reducible refine kSet ?_ ?hB _; case hB => (simp; try omega)) | with_reducible refine kAlloc ?_ _ | with_reducible refine Below.drew ?_ | with_reducible refine kDrewN ?_ _ | with_reducible refine kTrans ?_ (by assumption)))).mono ?_
                   rintro e W5 ⟨rfl, hb5⟩
                   have kk5 : Below W.heap.size W W5 := kTrans (Below.drew (Below.refl _ _)) hb5
                   have hv5 : Boxed W5 (w.heap.size + 1) 31 (.slice ua pre.length uc) := blk_below HV.out kk5
                   have cv5 := hv5.cell
                   have KK5 := Lib.hid kk5
                   clear kk5 hb5 hv5)
      refine hK.out _ _ (show W5.heap[w.heap.size]? = _ from blk_below HBD2.out KK5.out) (fun hHeld => ?_)
      clear hK K
      refine wpAnyH_ready (rs := [0, 4]) (by kernel_rfl) (by simp) ?_
      refine AllReadyH.cons rfl (fun K hK => ?_) (AllReadyH.cons rfl (fun K hK => ?_) AllReadyH.nil)
      · skip
        go_simp
        refine hK.out _ _ (by assumption) (fun hHeld => ?_)
        clear hK K
        refine wpAnyH_ready (rs := [4]) (by kernel_rfl) (by simp) ?_
        refine AllReadyH.cons rfl (fun K hK => ?_) AllReadyH.nil
        go_simp
        have cva : (W5.alloc (.cells #[.int .i64 oj] 2)).cell? ⟨w.heap.size + 1, 0, none⟩ = some (.slice ua pre.length uc) := ((show Boxed W5 (w.heap.size + 1) 31 (.slice ua pre.length uc) from blk_below HV.out KK5.out).alloc _).cell
        refine hK.out _ _ (show _ = _ from (Below.heap_alloc _ _ _ (blk_lt (blk_below HBD2.out KK5.out))).trans (blk_below HBD2.out KK5.out)) (fun hHeld => ?_)
        clear hK K
        refine wpAnyH_ready (rs := [5]) (by kernel_rfl) (by simp) ?_
        refine AllReadyH.cons rfl (fun K hK => ?_) AllReadyH.nil
        refine step_append_own rfl _ _ 31 rfl W0.heap.size 2 i0 _ 1 8 Tryz.underlying31 Hi.out Hz0.out Hz1.out Hz2.out rfl (by decide) (.slice ua pre.length uc) pre.length (flatIn A) rfl (owns_below HOW.out (kAlloc KK5.out _)) ⟨W5.heap.size, 0, none⟩ 1 1 [.int .i64 oj] rfl rfl (World.news_of_block (cs := #[.int .i64 oj]) (heap_alloc_new _ _)) (by simp [Value.oneCell']) (by unfold maxLen; omega) (by omega) (by have := KK5.out.size; simp; omega) ?_
        intro v6 w6 hown6_ hgr_ _
        obtain ⟨g6, c6, rfl⟩ := ownsRow_succ hown6_
        have hv6_ : Boxed w6 (w.heap.size + 1) 31 (.slice ua pre.length uc) := ((show Boxed W5 (w.heap.size + 1) 31 (.slice ua pre.length uc) from blk_below HV.out KK5.out).alloc _).kept hgr_ (fun e' => own_low HOW.out (by omega) e'.symm)
        have cv6 := hv6_.cell
        have cf6 := hv6_.frozen
        have hd6 : w6.heap[w.heap.size]? = some (.cells #[.int .i8 wd, .int .i8 hi, .map (some B), .int .i8 wd, .int .i8 hi, .slice (some ⟨b, 0, none⟩) m m, .slice (some ⟨k, 0, none⟩) n n, .slice (some ⟨q, 0, none⟩) r r] 89 (0, 0)) := (hgr_.block w.heap.size (by have := blk_lt (blk_below HBD2.out KK5.out); simp; omega) (fun e' => own_low HOW.out (by omega) e'.symm)).trans ((Below.heap_alloc _ _ _ (blk_lt (blk_below HBD2.out KK5.out))).trans (blk_below HBD2.out KK5.out))
        have hown6 := Lib.hid hown6_
        have hgr := Lib.hid hgr_
        have hv6 := Lib.hid hv6_
        have HD6 := Lib.hid hd6
        clear hown6_ hgr_ hv6_ hd6
        refine hK.out _ _ HD6.out (fun hHeld => ?_)
        clear hK K
        refine wpAnyH_ready (rs := [6]) (by kernel_rfl) (by simp) ?_
        refine AllReadyH.cons rfl (fun K hK => ?_) AllReadyH.nil
        go_simp
        refine hK.out _ _ (show _ = _ from blk_set HD6.out (by simp)) (fun hHeld => ?_)
        clear hK K
        refine wpAnyH_done (by kernel_rfl) ?_ _
        gi_wp2
        have hlo : ∀ j, j < W.heap.size → j ≠ w.heap.size + 1 → (Value.slice ua pre.length uc).ownBlock ≠ some j → (w6.setCell ⟨w.heap.size + 1, 0, none⟩ (.slice (some ⟨g6, 0, none⟩) (pre.length + 1) c6)).heap[j]? = W.heap[j]? := fun j hj hne hno =>
          (Below.heap_setCell _ _ _ _ hne).trans ((hgr.out.block j (by have := KK5.out.size; simp; omega) (fun e' => hno e'.symm)).trans ((Below.heap_alloc _ _ _ (Nat.lt_of_lt_of_le hj KK5.out.size)).trans (KK5.out.block j hj)))
        have hsz6 : W.heap.size ≤ w6.heap.size := Nat.le_trans KK5.out.size (Nat.le_trans (by simp) hgr.out.size)
        refine ⟨⟨by simpa [World.setCell] using hsz6, fun j o hjB hj ho => ?_⟩, ⟨by simpa [World.setCell] using hsz6, fun j hj => ?_⟩, ⟨_, hv6.out.set _, ?_, trivial⟩, ?_⟩
        · exact (hlo j (blk_lt hj) (fun e' => by have h2 := HV.out; rw [e'] at hj; unfold Boxed at h2; rw [h2] at hj; cases hj; cases ho) (own_ne HOW.out hj ho)).trans hj
        · exact hlo j (by rw [hj]; omega) (by rw [hj]; omega) (own_low HOW.out (by rw [hj]; omega))
        · rw [HL.out, List.length_append, flatIn_end]
          exact hown6.out.kept (grownBy_setCell' w6 (w.heap.size + 1) _) (.inr (fun e' => own_low hown6.out (j := w.heap.size + 1) (by omega) e'))
        · refine ⟨?_, ?_, ?_, by simpa [World.setCell] using Nat.le_trans hszW hsz6, fun j hj hne => ?_⟩
          · exact hgr.out.os.trans (KK5.out.os.trans HGR.out.os)
          · exact hgr.out.tape.trans (KK5.out.tape.trans HGR.out.tape)
          · exact hgr.out.output.trans (KK5.out.output.trans HGR.out.output)
          · exact (hlo j (by omega) (fun e' => hne (by rw [e'])) (own_low HOW.out hj)).trans (HGR.out.block j hj hne)
      · skip
        go_simp
        have cva : (W5.alloc (.cells #[.int .i64 oj] 2)).cell? ⟨w.heap.size + 1, 0, none⟩ = some (.slice ua pre.length uc) := ((show Boxed W5 (w.heap.size + 1) 31 (.slice ua pre.length uc) from blk_below HV.out KK5.out).alloc _).cell
        refine hK.out _ _ (show _ = _ from (Below.heap_alloc _ _ _ (blk_lt (blk_below HBD2.out KK5.out))).trans (blk_below HBD2.out KK5.out)) (fun hHeld => ?_)
        clear hK K
        refine wpAnyH_ready (rs := [0]) (by kernel_rfl) (by simp) ?_
        refine AllReadyH.cons rfl (fun K hK => ?_) AllReadyH.nil
        go_simp
        refine hK.out _ _ (by assumption) (fun hHeld => ?_)
        clear hK K
        refine wpAnyH_ready (rs := [5]) (by kernel_rfl) (by simp) ?_
        refine AllReadyH.cons rfl (fun K hK => ?_) AllReadyH.nil
        refine step_append_own rfl _ _ 31 rfl W0.heap.size 2 i0 _ 1 8 Tryz.underlying31 Hi.out Hz0.out Hz1.out Hz2.out rfl (by decide) (.slice ua pre.length uc) pre.length (flatIn A) rfl (owns_below HOW.out (kAlloc KK5.out _)) ⟨W5.heap.size, 0, none⟩ 1 1 [.int .i64 oj] rfl rfl (World.news_of_block (cs := #[.int .i64 oj]) (heap_alloc_new _ _)) (by simp [Value.oneCell']) (by unfold maxLen; omega) (by omega) (by have := KK5.out.size; simp; omega) ?_
        intro v6 w6 hown6_ hgr_ _
        obtain ⟨g6, c6, rfl⟩ := ownsRow_succ hown6_
        have hv6_ : Boxed w6 (w.heap.size + 1) 31 (.slice ua pre.length uc) := ((show Boxed W5 (w.heap.size + 1) 31 (.slice ua pre.length uc) from blk_below HV.out KK5.out).alloc _).kept hgr_ (fun e' => own_low HOW.out (by omega) e'.symm)
        have cv6 := hv6_.cell
        have cf6 := hv6_.frozen
        have hd6 : w6.heap[w.heap.size]? = some (.cells #[.int .i8 wd, .int .i8 hi, .map (some B), .int .i8 wd, .int .i8 hi, .slice (some ⟨b, 0, none⟩) m m, .slice (some ⟨k, 0, none⟩) n n, .slice (some ⟨q, 0, none⟩) r r] 89 (0, 0)) := (hgr_.block w.heap.size (by have := blk_lt (blk_below HBD2.out KK5.out); simp; omega) (fun e' => own_low HOW.out (by omega) e'.symm)).trans ((Below.heap_alloc _ _ _ (blk_lt (blk_below HBD2.out KK5.out))).trans (blk_below HBD2.out KK5.out))
        have hown6 := Lib.hid hown6_
        have hgr := Lib.hid hgr_
        have hv6 := Lib.hid hv6_
        have HD6 := Lib.hid hd6
        clear hown6_ hgr_ hv6_ hd6
        refine hK.out _ _ HD6.out (fun hHeld => ?_)
        clear hK K
        refine wpAnyH_ready (rs := [6]) (by kernel_rfl) (by simp) ?_
        refine AllReadyH.cons rfl (fun K hK => ?_) AllReadyH.nil
        go_simp
        refine hK.out _ _ (show _ = _ from blk_set HD6.out (by simp)) (fun hHeld => ?_)
        clear hK K
        refine wpAnyH_done (by kernel_rfl) ?_ _
        gi_wp2
        have hlo : ∀ j, j < W.heap.size → j ≠ w.heap.size + 1 → (Value.slice ua pre.length uc).ownBlock ≠ some j → (w6.setCell ⟨w.heap.size + 1, 0, none⟩ (.slice (some ⟨g6, 0, none⟩) (pre.length + 1) c6)).heap[j]? = W.heap[j]? := fun j hj hne hno =>
          (Below.heap_setCell _ _ _ _ hne).trans ((hgr.out.block j (by have := KK5.out.size; simp; omega) (fun e' => hno e'.symm)).trans ((Below.heap_alloc _ _ _ (Nat.lt_of_lt_of_le hj KK5.out.size)).trans (KK5.out.block j hj)))
        have hsz6 : W.heap.size ≤ w6.heap.size := Nat.le_trans KK5.out.size (Nat.le_trans (by simp) hgr.out.size)
        refine ⟨⟨by simpa [World.setCell] using hsz6, fun j o hjB hj ho => ?_⟩, ⟨by simpa [World.setCell] using hsz6, fun j hj => ?_⟩, ⟨_, hv6.out.set _, ?_, trivial⟩, ?_⟩
        · exact (hlo j (blk_lt hj) (fun e' => by have h2 := HV.out; rw [e'] at hj; unfold Boxed at h2; rw [h2] at hj; cases hj; cases ho) (own_ne HOW.out hj ho)).trans hj
        · exact hlo j (by rw [hj]; omega) (by rw [hj]; omega) (own_low HOW.out (by rw [hj]; omega))
        · rw [HL.out, List.length_append, flatIn_end]
          exact hown6.out.kept (grownBy_setCell' w6 (w.heap.size + 1) _) (.inr (fun e' => own_low hown6.out (j := w.heap.size + 1) (by omega) e'))
        · refine ⟨?_, ?_, ?_, by simpa [World.setCell] using Nat.le_trans hszW hsz6, fun j hj hne => ?_⟩
          · exact hgr.out.os.trans (KK5.out.os.trans HGR.out.os)
          · exact hgr.out.tape.trans (KK5.out.tape.trans HGR.out.tape)
          · exact hgr.out.output.trans (KK5.out.output.trans HGR.out.output)
          · exact (hlo j (by omega) (fun e' => hne (by rw [e'])) (own_low HOW.out hj)).trans (HGR.out.block j hj hne)
  case done =>
    rintro D zs W hDD rfl ⟨⟨v, hv, hown, _⟩, hg⟩ hK
    rw [HA.out, numsL_length] at hown
    obtain ⟨ua, uc, rfl⟩ := owns_slice hown
    have cv := hv.cell
    have hoP := ownsRow_putObj hown (.deferred none) hK rfl
    have kW : Below w.heap.size w W := k0.grown hg k0.size (fun j e' => by cases e'; omega)
    have HOP := Lib.hid (owns_mono k0.size hoP)
    have HKW := Lib.hid (kW.grown (grownBy_putObj' W D (.deferred none)) kW.size (fun j e' => by cases e'; omega))
    clear hv hown hg hoP
    gi_wp2
    refine ⟨by simp, .inl ⟨_, _, rfl, run_takeDeferred hK, ?_⟩⟩
    exact ⟨_, results_tmp rfl _ _ _, .slice ua N uc, rfl, HOP.out, HKW.out⟩
  case stop =>
    rintro D c pre W _ _ h _
    exact h.elim
end Go.Proofs.YthohngkdfhpieaaGreatDoor
