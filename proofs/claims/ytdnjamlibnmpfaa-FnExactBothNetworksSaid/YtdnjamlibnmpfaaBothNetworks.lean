/- 'BothNetworks' answers as its model at every argument. No conditions. -/
import Derived.Test.YtdnjamlibnmpfaaBothNetworksW
namespace Go.Proofs.Ytdnjamlibnmpfaa.BothNetworks
open Go.ChangeShapes Go.WideShapes Go.ChangeAt Go.RowKit
set_option linter.unusedVariables false

set_option maxRecDepth 100000 in
theorem lifted (os : Os) (started : os.Started) (H : Type) (enc : TypeId × Value → H) :
    ReturnsInHanded {} Try.checked os 3 .any (Rows.fnExactBothNetworksSpec.pre6 enc Try.prog Try.f3 Rows.fnExactBothNetworksRow.domain false) (Rows.fnExactBothNetworksSpec.post enc Try.prog Try.f3 false true false false) := by
  refine returnsInHanded_of_change (C := Try.checked) own started (by kernel_rfl) Try.func3
    (ChangeSpec.witness6 (enc := enc) (C := Try.checked) false ⟨#[], #[.agg #[.int .i8 0, .slice none 0 0, .slice none 0 0], .agg #[.int .i8 0, .slice none 0 0, .slice none 0 0]], []⟩ 8 (by kernel_rfl) (by kernel_rfl) (by kernel_rfl) (by kernel_rfl)) ?_
  intro W base args ds gs before hval0 hW hcnd _
  have hval : ∀ (j : Nat) t v, Try.f3.params[j]? = some t → args[j]? = some v → Value.okWide Try.prog W .any base t v := hval0
  have hW' := hW
  obtain ⟨p, q, hA0, hV, rfl, hfz, hnd⟩ := hW
  have hA : DataW.TrodAll enc Try.prog W 0 (fun _ => true) true Try.f3.params.toList args.toList ds p := hA0
  rw [Try.params3] at hA hval
  have r_ := hA
  obtain ⟨v0, vs0, d0, ds0, pp0, qq0, hargs0, hds0, _, h0, r_⟩ := trodAll_cons r_
  obtain ⟨v1, vs1, d1, ds1, pp1, qq1, hargs1, hds1, _, h1, r_⟩ := trodAll_cons r_
  obtain ⟨hv_, hd_, _⟩ := trodAll_nil r_
  subst hv_ hd_
  subst hargs1 hds1
  obtain rfl : args = #[v0, v1] := by cases args; simp_all
  subst hds0
  obtain ⟨f0_, f1_, f2_, e1_, e2_, e3_, e4_, e5_, e6_⟩ := network_struct
  obtain ⟨wd0, s0, t0, l0, lo0, rfl, bw0, sl0, al0, le0, sp0, ap0, lp0⟩ := open_network e1_ e2_ e3_ e4_ e5_ e6_ Nd_cells Nd_flat Sh_cells Sh_flat (hval 0 26 v0 rfl rfl) h0
  obtain ⟨f0_, f1_, f2_, e1_, e2_, e3_, e4_, e5_, e6_⟩ := network_struct
  obtain ⟨wd1, s1, t1, l1, lo1, rfl, bw1, sl1, al1, le1, sp1, ap1, lp1⟩ := open_network e1_ e2_ e3_ e4_ e5_ e6_ Nd_cells Nd_flat Sh_cells Sh_flat (hval 1 26 v1 rfl rfl) h1
  refine (walk (w := W) wd0 s0 t0 l0 lo0 bw0 sl0 al0 le0 sp0 ap0 lp0 wd1 s1 t1 l1 lo1 bw1 sl1 al1 le1 sp1 ap1 lp1).mono fun e W' ⟨he, hg⟩ => ?_
  subst he
  exact ⟨_, rfl, law_post kids full Try.underlying4 (by decide) rfl rfl rfl hW' hg⟩

theorem over : Rows.fnExactBothNetworksRow.holds Try.pinned (OpenSpec.ofChange Rows.fnExactBothNetworksSpec) :=
  OpenClaim.holds_of_wide 3 Try.f3 rfl rfl rfl rfl rfl rfl rfl ⟨rfl, rfl, rfl, rfl, rfl⟩ rfl rfl rfl rfl rfl (by kernel_rfl) Try.func3 (by kernel_rfl)
    (of_decide_eq_true (by kernel_rfl)) (by unfold Func.isWrapper; first | (rw [if_pos (by decide +kernel)]; kernel_rfl) | (rw [if_neg (by decide +kernel)]; exact ⟨rfl, rfl⟩))
    (fun os started H enc _ => lifted os started H enc)

/-- The statement. -/
theorem proved : Rows.FnExactBothNetworksSaid :=
  over
#print axioms proved
end Go.Proofs.Ytdnjamlibnmpfaa.BothNetworks
