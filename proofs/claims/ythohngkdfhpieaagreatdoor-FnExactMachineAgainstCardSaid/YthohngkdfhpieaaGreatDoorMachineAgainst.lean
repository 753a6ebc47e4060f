/- 'MachineAgainst' answers as its model at every argument. No conditions. -/
import Derived.Test.YthohngkdfhpieaaGreatDoorMachineAgainstW
namespace Go.Proofs.YthohngkdfhpieaaGreatDoor.MachineAgainst
open Go.ChangeShapes Go.WideShapes Go.ChangeAt Go.RowKit
set_option linter.unusedVariables false

set_option maxRecDepth 100000 in
theorem lifted (os : Os) (started : os.Started) (H : Type) (enc : TypeId × Value → H) :
    ReturnsInHanded {} Tryz.checked os 5 .any (fun w args => (Rows.fnExactMachineAgainstSpec.pre enc Tryz.prog Tryz.f5 [] false w args ∧ laidMetH Tryz.prog laid2 w) ∧ sizedMet enc Tryz.prog Tryz.f5 (OpenSpec.ofChange Rows.fnExactMachineAgainstSpec) false w args) (Rows.fnExactMachineAgainstSpec.post enc Tryz.prog Tryz.f5 false true false false) := by
  refine returnsInHanded_of_change_and (C := Tryz.checked) (X := fun w _ => laidMetH Tryz.prog laid2 w) (fun _ _ _ hh h => h.of_heap hh) own started (by kernel_rfl) Tryz.func5
    (ChangeSpec.witness_shaped (enc := enc) (C := Tryz.checked) (os := os) (X := fun w _ => laidMetH Tryz.prog laid2 w) false (World.doorLaid Tryz.prog 400 os) #[.agg #[.int .i8 0, .int .i8 0, .slice none 0 0, .slice none 0 0, .slice none 0 0], .agg #[.int .i8 0, .slice none 0 0, .slice none 0 0]] 8 rfl (World.shaped_of_RefB (by kernel_rfl) (by kernel_rfl)) (by kernel_rfl) (by kernel_rfl) (by kernel_rfl) (door_met2 os _)) ?_
  intro W base args ds gs before hval0 hW _ _ hL _
  have hval : ∀ (j : Nat) t v, Tryz.f5.params[j]? = some t → args[j]? = some v → Value.okWide Tryz.prog W .any base t v := hval0
  have hW' := hW
  obtain ⟨p, q, hA0, hV, rfl, hfz, hnd⟩ := hW
  have hA : DataW.TrodAll enc Tryz.prog W 0 (fun _ => true) true Tryz.f5.params.toList args.toList ds p := hA0
  rw [Tryz.params5] at hA hval
  have r_ := hA
  obtain ⟨v0, vs0, d0, ds0, pp0, qq0, hargs0, hds0, _, h0, r_⟩ := trodAll_cons r_
  obtain ⟨v1, vs1, d1, ds1, pp1, qq1, hargs1, hds1, _, h1, r_⟩ := trodAll_cons r_
  obtain ⟨hv_, hd_, _⟩ := trodAll_nil r_
  subst hv_ hd_
  subst hargs1 hds1
  obtain rfl : args = #[v0, v1] := by cases args; simp_all
  subst hds0
  obtain ⟨f0_, f1_, f2_, g0_, g1_, g2_, e1_, e2_, e3_, e4_, e5_, e6_, e7_, e8_, e9_⟩ := machine_struct
  obtain ⟨wd0, hi0, s0, t0, u0, l0, lo0, lc0, rfl, bw0, bh0, sl0, al0, le0, sp0, ap0, lp0, sc0, ac0, ln0⟩ := open_machine e1_.1 e1_.2 e2_ e3_ e4_ e5_ e6_ e7_ e8_ e9_ piece_cells piece_flat Po_cells Po_flat Cl_cells Cl_flat (hval 0 29 v0 rfl rfl) h0
  obtain ⟨f0_, f1_, f2_, e1_, e2_, e3_, e4_, e5_, e6_⟩ := network_struct
  obtain ⟨wd1, s1, t1, l1, lo1, rfl, bw1, sl1, al1, le1, sp1, ap1, lp1⟩ := open_network e1_ e2_ e3_ e4_ e5_ e6_ Nd_cells Nd_flat Sh_cells Sh_flat (hval 1 53 v1 rfl rfl) h1
  refine (walk (w := W) (staytab_of_laid hL) wd0 hi0 s0 t0 u0 l0 lo0 lc0 bw0 bh0 sl0 al0 le0 sp0 ap0 lp0 sc0 ac0 ln0 wd1 s1 t1 l1 lo1 bw1 sl1 al1 le1 sp1 ap1 lp1).mono fun e W' ⟨he, hg⟩ => ?_
  subst he
  exact ⟨_, rfl, law_post1 kids full laidOut staysRowed Tryz.underlying4 (by decide) rfl rfl (fun _ => rfl) hW' hg⟩

theorem over : Rows.fnExactMachineAgainstRow.holds Tryz.pinned (OpenSpec.ofChange Rows.fnExactMachineAgainstSpec) :=
  OpenClaim.holds_of_wide 5 Tryz.f5 rfl rfl rfl rfl rfl rfl rfl ⟨rfl, rfl, rfl, rfl, rfl⟩ rfl rfl rfl rfl rfl (by kernel_rfl) Tryz.func5 (by kernel_rfl)
    (of_decide_eq_true (by kernel_rfl)) (by unfold Func.isWrapper; first | (rw [if_pos (by decide +kernel)]; kernel_rfl) | (rw [if_neg (by decide +kernel)]; exact ⟨rfl, rfl⟩))
    (fun os started H enc _ => lifted os started H enc)

/-- The statement. -/
theorem proved : Rows.FnExactMachineAgainstCardSaid :=
  Claim7.holds_tied_plain_at .later [] [.data, .data] true (true, "13e043f96bf06e9a48a823683c8b93c02fd752daf95c4b09e8a202ae25b4c9f9") true
    over (fun _ h => by cases h) (by kernel_rfl) (fun _ h => by cases h) fnExactMachineAgainst_row_tie rfl ⟨rfl, rfl⟩ (by kernel_rfl) rfl
    (fun f fn hf hfn => by
      obtain rfl : f = 5 := Option.some.inj ((show Tryz.prog.funcNamed "loop.example/g01274/laws.FnExactMachineAgainst" = some 5 by kernel_rfl).symm.trans hf) |>.symm
      obtain rfl : fn = Tryz.f5 := (Option.some.inj (Tryz.func5.symm.trans hfn)).symm
      exact ⟨by kernel_rfl, fun j t ht => by
        rw [Tryz.params5] at ht
        have hm : t ∈ [29, 53] := by simpa using Array.mem_of_getElem? ht
        have hall : ([29, 53].all fun u => !Tryz.prog.wantsStandIn u) = true := by kernel_rfl
        exact (show Tryz.prog.wantsStandIn t = false by simpa using List.all_eq_true.1 hall t hm)⟩)
    (by kernel_rfl)
#print axioms proved
end Go.Proofs.YthohngkdfhpieaaGreatDoor.MachineAgainst
