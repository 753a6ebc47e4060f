/- 'LaterPushes' answers as its model at every argument. No conditions. -/
import Derived.Test.YthancdlkkfegnaaLpI
namespace Go.Proofs.Ythancdlkkfegnaa.LaterPushes
open Go.ChangeShapes Go.WideShapes Go.ChangeAt Go.RowKit
set_option linter.unusedVariables false

theorem wf16 {n : Int} (h : -32768 ≤ n ∧ n ≤ 32767) : (Lit.int .i16 n).wf = true := by
  simp [Lit.wf, IntKind.min, IntKind.max, IntKind.signed, IntKind.bits]
  omega
theorem moved_wf {by' : Int} : ∀ {l : List Pu}, PusWf l → laterOk by' l = true → PusWf (l.map (moved by'))
  | [], _, _ => fun p hp => absurd hp (by simp)
  | q :: l, hw, ho => by
    simp only [laterOk, Bool.and_eq_true, laterOne, decide_eq_true_eq] at ho
    intro p hp
    rw [List.map_cons] at hp
    rcases List.mem_cons.1 hp with rfl | hp
    · have := hw q (List.mem_cons_self ..)
      exact ⟨this.1, this.2.1, this.2.2.1, wf16 (by simp only [moved]; omega)⟩
    · exact moved_wf (fun r hr => hw r (List.mem_cons_of_mem _ hr)) ho.2 p hp
theorem laterQ_ok {by' : Int} {l lr : List Pu} {C : Int} (hw : PusWf l) (h : laterQ by' l = (lr, C)) : PusWf lr ∧ lr.length ≤ 1048576 := by
  have hnil : PusWf ([] : List Pu) ∧ ([] : List Pu).length ≤ 1048576 := ⟨fun p hp => absurd hp (by simp), by simp⟩
  unfold laterQ at h
  split at h
  · split at h
    · split at h
      · rename_i h1 h2 h3
        obtain ⟨rfl, _⟩ := pair_inj h
        exact ⟨moved_wf hw h3, by rw [List.length_map]; omega⟩
      · obtain ⟨rfl, _⟩ := pair_inj h; exact hnil
    · obtain ⟨rfl, _⟩ := pair_inj h; exact hnil
  · obtain ⟨rfl, _⟩ := pair_inj h; exact hnil

set_option maxRecDepth 100000 in
set_option maxHeartbeats 4000000 in
theorem walk {w : World} (v0 : Value) (l : List Pu) (s0 : SlPu w l v0) (al : PusWf l) (e0 : l.length ≤ maxLen) (by' : Int) (wb : (Lit.int .i64 by').wf = true) :
    Calls Try.prog 16 #[v0, .int .i64 by'] w fun e w' => e = .returned (.bool true) ∧ Below w.heap.size w w' := by
  unfold maxLen at e0
  have bb := bounds_i64 wb
  have S0 := Lib.hid (SlOPu.start s0)
  clear s0 wb
  by_cases h0 : 1048576 - (l.length : Int) < 0
  · go_enter Try.func16, Try.ntmps16
    go_wp2_with fail
    refine (szPushS_any v0 l _ S0.out.sl 1048576 (by omega) (by omega) (by omega)).mono ?_
    rw [if_pos (by omega)]
    rintro e w1 ⟨rfl, rfl⟩
    go_wp2
    go_ret
    exact ⟨rfl, Below.refl _ _⟩
  · have hm : l.length ≤ 1048576 := by omega
    have h0' : ¬ 1048576 < (l.length : Int) := by omega
    obtain ⟨lr, C, hQ⟩ : ∃ lr C, laterQ by' l = (lr, C) := ⟨_, _, rfl⟩
    obtain ⟨al', hmr⟩ := laterQ_ok al hQ
    have Hs := Lib.hid (fun b w2 hp hb => specLaterPushes_any b _ by' l w2 rfl hp hb al bb hm lr C hQ)
    have Hi := Lib.hid (fun b w2 hp hb => implLaterPushes_any b _ by' l w2 rfl hp hb al bb hm lr C hQ)
    have lmax : (4 : Int) * l.length ≤ 4194304 := by omega
    have rmax : (4 : Int) * lr.length ≤ 4194304 := by omega
    clear hQ bb
    go_enter Try.func16, Try.ntmps16
    go_wp2_with fail
    refine (szPushS_any v0 l _ S0.out.sl 1048576 (by omega) (by omega) (by omega)).mono ?_
    rw [if_neg (by omega)]
    rintro e w1 ⟨rfl, rfl⟩
    go_wp2_with fail
    refine (toPushS_any v0 l _ S0.out.sl hm).mono ?_
    rintro e wa ⟨rfl, pa, za, _, ba⟩
    have Pa := Lib.hid pa
    have S0a := Lib.hid (S0.out.below ba)
    clear pa S0
    go_wp2_with fail
    refine (Hs.out _ _ Pa.out za).mono ?_
    rintro e wb ⟨sw, rfl, vw, bb⟩
    have Tb := kTrans ba bb
    obtain ⟨ua, uc, rfl⟩ := vw.form
    have Vw := Lib.hid vw
    have S0b := Lib.hid (S0a.out.below bb)
    have n1 := ba.size
    have n2 := bb.size
    clear vw S0a Pa ba bb
    go_wp2_with fail
    refine (toPushS_any v0 l _ S0b.out.sl hm).mono ?_
    rintro e wc ⟨rfl, pc, zc, fc, bc⟩
    have Tc := kTrans Tb bc
    have Vx := Lib.hid (SlWPu.mk (lo := wb.heap.size) (hi := wc.heap.size) wb.heap.size 0 l.length pc (Nat.le_refl _) zc zc fc (Nat.le_refl _))
    have Pc' := Lib.hid pc
    have Vwc := Lib.hid (Vw.out.below bc)
    have S0c := Lib.hid (S0b.out.below bc)
    have n3 := bc.size
    clear pc fc Vw S0b Tb bc
    go_wp2_with fail
    refine (Hi.out _ _ Pc'.out zc).mono ?_
    rintro e wd ⟨sg, rfl, vg, bd⟩
    have Td := kTrans Tc bd
    obtain ⟨ga, gc, rfl⟩ := vg.form
    have Vg := Lib.hid vg
    have Vxd := Lib.hid (Vx.out.below bd)
    have Vwd := Lib.hid (Vwc.out.below bd)
    have S0d := Lib.hid (S0c.out.below bd)
    have n4 := bd.size
    clear vg Vx Vwc S0c Tc bd Pc' zc
    go_wp2_with fail
    refine (eqPushS_any _ _ lr _ Vg.out.sl Vwd.out.sl al' hmr).mono ?_
    rintro e we ⟨rfl, be⟩
    have Te := kTrans Td be
    have Vge := Lib.hid (Vg.out.below be)
    have Vxe := Lib.hid (Vxd.out.below be)
    have Vwe := Lib.hid (Vwd.out.below be)
    have S0e := Lib.hid (S0d.out.below be)
    clear Vg Vxd Vwd S0d Td be
    go_wp2_with fail
    refine (toPushS_any v0 l _ S0e.out.sl hm).mono ?_
    rintro e wf ⟨rfl, pf, zf, _, bf⟩
    have Tf := kTrans Te bf
    have Pf := Lib.hid pf
    have Vgf := Lib.hid (Vge.out.below bf)
    have Vxf := Lib.hid (Vxe.out.below bf)
    have Vwf := Lib.hid (Vwe.out.below bf)
    have S0f := Lib.hid (S0e.out.below bf)
    clear pf Vge Vxe Vwe S0e Te bf
    go_wp2_with fail
    refine (eqPushS_any _ _ l _ Vxf.out.sl (SlPu.mk _ 0 _ Pf.out zf (Nat.le_refl _)) al hm).mono ?_
    rintro e wg ⟨rfl, bg⟩
    have Tg := kTrans Tf bg
    have Vgg := Lib.hid (Vgf.out.below bg)
    have Vxg := Lib.hid (Vxf.out.below bg)
    have Vwg := Lib.hid (Vwf.out.below bg)
    have S0g := Lib.hid (S0f.out.below bg)
    clear Vgf Vxf Vwf S0f Tf bg Pf zf
    go_wp2_with fail
    refine (markPushS_any _ _ _ l 1 _ Vxg.out (by omega) (by omega) hm).mono ?_
    rintro e wh ⟨rfl, _, kh⟩
    have Th := kOut Tg kh (by omega)
    have Vgh := Lib.hid (Vgg.out.out kh (by omega))
    have Vwh := Lib.hid (Vwg.out.out kh (by omega))
    have S0h := Lib.hid (S0g.out.out kh (by omega))
    clear Vgg Vxg Vwg S0g Tg kh
    go_wp2_with fail
    refine (eqPushS_any _ _ lr _ Vgh.out.sl Vwh.out.sl al' hmr).mono ?_
    rintro e wi ⟨rfl, bi⟩
    have Ti := kTrans Th bi
    have Vgi := Lib.hid (Vgh.out.below bi)
    have Vwi := Lib.hid (Vwh.out.below bi)
    have S0i := Lib.hid (S0h.out.below bi)
    clear Vgh Vwh S0h Th bi
    go_wp2_with fail
    refine (markPushS_any _ _ _ lr 1 _ Vgi.out (by omega) (by omega) hmr).mono ?_
    rintro e wj ⟨rfl, vj, kj⟩
    have Tj := kOut Ti kj (by omega)
    have Vj := Lib.hid vj
    have Vwj := Lib.hid (Vwi.out.out kj (by omega))
    have S0j := Lib.hid (S0i.out.out kj (by omega))
    clear vj Vgi Vwi S0i Ti kj
    go_wp2_with fail
    refine (heldPushS_any _ _ lr.length _ 1 _ Vj.out (by omega) (by omega) hmr).mono ?_
    rintro e wk ⟨rfl, bk⟩
    have Tk := kTrans Tj bk
    have Vk := Lib.hid (Vj.out.below bk)
    have Vwk := Lib.hid (Vwj.out.below bk)
    have S0k := Lib.hid (S0j.out.below bk)
    clear Vj Vwj S0j Tj bk
    go_wp2_with fail
    refine (toPushS_any v0 l _ S0k.out.sl hm).mono ?_
    rintro e wl ⟨rfl, pl, zl, _, bl⟩
    have Tl := kTrans Tk bl
    have Pl := Lib.hid pl
    have Vl := Lib.hid (Vk.out.below bl)
    have Vwl := Lib.hid (Vwk.out.below bl)
    clear pl Vk Vwk S0k Tk bl
    go_wp2_with fail
    refine (Hi.out _ _ Pl.out zl).mono ?_
    rintro e wm ⟨sh, rfl, vh, bm⟩
    have Tm := kTrans Tl bm
    obtain ⟨ha, hc, rfl⟩ := vh.form
    have Vh := Lib.hid vh
    have Vm := Lib.hid (Vl.out.below bm)
    have Vwm := Lib.hid (Vwl.out.below bm)
    clear vh Vl Vwl Tl bm Pl zl
    go_wp2_with fail
    refine (eqPushS_any _ _ lr _ Vh.out.sl Vwm.out.sl al' hmr).mono ?_
    rintro e wn ⟨rfl, bn⟩
    have Tn := kTrans Tm bn
    have Vn := Lib.hid (Vm.out.below bn)
    clear Vh Vm Vwm Tm bn
    go_wp2_with fail
    refine (heldPushS_any _ _ lr.length _ 1 _ Vn.out (by omega) (by omega) hmr).mono ?_
    rintro e wo ⟨rfl, bo⟩
    have To := kTrans Tn bo
    clear Tn bo Vn
    go_wp2
    go_ret
    exact ⟨rfl, To⟩

set_option maxRecDepth 100000 in
theorem lifted (os : Os) (started : os.Started) (H : Type) (enc : TypeId × Value → H) :
    ReturnsInHanded {} Try.checked os 16 .any (Rows.fnExactLaterPushesSpec.pre6 enc Try.prog Try.f16 Rows.fnExactLaterPushesRow.domain false) (Rows.fnExactLaterPushesSpec.post enc Try.prog Try.f16 false true false false) := by
  refine returnsInHanded_of_change (C := Try.checked) own started (by kernel_rfl) Try.func16
    (ChangeSpec.witness6 (enc := enc) (C := Try.checked) false ⟨#[], #[.slice none 0 0, .int .i64 0], []⟩ 8 (by kernel_rfl) (by kernel_rfl) (by kernel_rfl) (by kernel_rfl)) ?_
  intro W base args ds gs before hval0 hW hcnd _
  have hval : ∀ (j : Nat) t v, Try.f16.params[j]? = some t → args[j]? = some v → Value.okWide Try.prog W .any base t v := hval0
  have hW' := hW
  obtain ⟨p, q, hA0, hV, rfl, hfz, hnd⟩ := hW
  have hA : DataW.TrodAll enc Try.prog W 0 (fun _ => true) true Try.f16.params.toList args.toList ds p := hA0
  rw [Try.params16] at hA hval
  have r_ := hA
  obtain ⟨v0, vs0, d0, ds0, pp0, qq0, hargs0, hds0, _, h0, r_⟩ := trodAll_cons r_
  obtain ⟨v1, vs1, d1, ds1, pp1, qq1, hargs1, hds1, _, h1, r_⟩ := trodAll_cons r_
  obtain ⟨hv_, hd_, _⟩ := trodAll_nil r_
  subst hv_ hd_
  subst hargs1 hds1
  obtain rfl : args = #[v0, v1] := by cases args; simp_all
  subst hds0
  obtain ⟨qa0, qn0, qc0, rfl⟩ := okWide_slice Try.underlying75 (hval 0 75 v0 rfl rfl)
  obtain ⟨fu0, hx0⟩ := h0
  obtain ⟨l0, sl0, al0, le0⟩ := open_Pus Try.underlying75 Pu_cells Pu_flat hx0
  obtain ⟨a1, rfl, rfl, rfl, w1⟩ := open_int Try.underlying2 (hval 1 2 v1 rfl rfl) h1
  refine (walk (w := W) (.slice qa0 qn0 qc0) l0 sl0 al0 le0 a1 w1).mono fun e W' ⟨he, hg⟩ => ?_
  subst he
  exact ⟨_, rfl, law_post kids full Try.underlying4 (by decide) rfl rfl rfl hW' hg⟩

theorem over : Rows.fnExactLaterPushesRow.holds Try.pinned (OpenSpec.ofChange Rows.fnExactLaterPushesSpec) :=
  OpenClaim.holds_of_wide 16 Try.f16 rfl rfl rfl rfl rfl rfl rfl ⟨rfl, rfl, rfl, rfl, rfl⟩ rfl rfl rfl rfl rfl (by kernel_rfl) Try.func16 (by kernel_rfl)
    (of_decide_eq_true (by kernel_rfl)) (by unfold Func.isWrapper; first | (rw [if_pos (by decide +kernel)]; kernel_rfl) | (rw [if_neg (by decide +kernel)]; exact ⟨rfl, rfl⟩))
    (fun os started H enc _ => lifted os started H enc)

/-- The statement. -/
theorem proved : Rows.FnExactLaterPushesSaid :=
  over
#print axioms proved
end Go.Proofs.Ythancdlkkfegnaa.LaterPushes
