/- ReadPush..: the program. -/
import Derived.Test.YthngnbaoaeomeaaDoorPzQ
import Derived.Test.YthngnbaoaeomeaaDoorPzV
namespace Go.Proofs.YthngnbaoaeomeaaDoor
open Go.ChangeShapes Go.WideShapes Go.ChangeAt Go.RowKit Go.Joins Go.Deep
set_option linter.unusedVariables false
set_option linter.unusedSimpArgs false

set_option maxRecDepth 100000 in
set_option maxHeartbeats 4000000 in
theorem implReadPushes_any (l : List UInt8) (w : World) (hl : l.length ≤ 1048576) (hE : ErrAt w) (hst : SideAt w) (hpw : PowAt w) (L : List Pu) (Cc : Int) (hA : PzA l L Cc) :
    Calls Tryd.prog 13 #[.string (bsT l)] w (PzPost L Cc w) := by
  have HPW := Lib.hid (parsePushs_any l w hl hE hst)
  have HSI := Lib.hid (fun W2 (h2 : Below w.heap.size w W2) => hst.below h2)
  have HPP := Lib.hid (fun W2 (h2 : Below w.heap.size w W2) => hpw.below h2)
  obtain ⟨S, hS⟩ : ∃ S, bsT l = S := ⟨_, rfl⟩
  rw [hS] at HPW ⊢
  have HA := Lib.hid hA
  have HS := Lib.hid hS
  clear hE hst hl hA hS hpw
  go_enter Tryd.func13, Tryd.ntmps13
  go_wp2_with fail
  refine HPW.out.mono ?_
  rintro e w1 ⟨A, v, ok, rfl, hwf, h60, hs, hlen, hq, hb1⟩
  obtain ⟨va, vc, rfl⟩ := hs.form
  have HWF := Lib.hid hwf
  have HSL := Lib.hid hs
  have HLE := Lib.hid hlen
  have HQQ := Lib.hid hq
  have K1 := Lib.hid hb1
  have n1 := hb1.size
  clear HPW hwf hs hlen hq hb1
  cases ok with
  | false =>
    obtain ⟨rfl, rfl⟩ := HA.out.no (fun r h1 h2 => by have h3 := (HQQ.out r h1 h2).1; cases h3)
    clear HA HQQ
    go_wp2
    exact bodyPost_ret (v := .tuple #[.slice none 0 0, .int .i64 5]) (by simp [results, Tryd.results13, go_sem]) rfl ⟨_, rfl, .empty _ _ rfl, K1.out⟩
  | true =>
    obtain ⟨R, hR⟩ : ∃ R, R = (decide (A.length ≤ 20) && plains A) := ⟨_, rfl⟩
    obtain ⟨T, hT⟩ : ∃ T, bsT (ptQ R A) = T := ⟨_, rfl⟩
    have HT := Lib.hid hT
    have HTX := Lib.hid (pzText_sl _ _ (.slice va A.length vc) A w1 HSL.out HWF.out (by omega) R hR T hT (HSI.out _ K1.out) (HPP.out _ K1.out))
    have HRR := Lib.hid (show R = pzOk A from hR)
    clear hT hR
    go_wp2_with fail
    refine HTX.out.mono ?_
    rintro e w2 ⟨rfl, hb2⟩
    have K2 := Lib.hid (kTrans K1.out hb2)
    have HSL2 := Lib.hid (HSL.out.below hb2)
    have hw2s := hb2.size
    clear HTX hb2
    by_cases he : ptQ R A = l
    · have hR2 : R = true := by
        cases R with
        | true => rfl
        | false =>
          have h0 : l = [] := he.symm
          have h1 := HLE.out (by trivial)
          rw [h0] at h1
          have h2 : A = [] := List.eq_nil_of_length_eq_zero h1
          have h3 := HRR.out
          rw [h2] at h3
          cases h3
      obtain ⟨rfl, rfl⟩ := HA.out.yes (by rw [← HRR.out]; exact hR2) (by unfold ptQ at he; rw [if_pos hR2] at he; exact he)
      obtain ⟨e1, e2, e3⟩ := eqL HT.out HS.out he
      clear he HA
      go_wp2
      exact bodyPost_ret (v := .tuple #[.slice va L.length vc, .int .i64 0]) (by simp [results, Tryd.results13, go_sem]) rfl ⟨_, rfl, HSL2.out.mono (Nat.le_refl _) (by omega), K2.out⟩
    · obtain ⟨rfl, rfl⟩ := HA.out.no (fun r h1 h2 => by
        obtain ⟨_, f1⟩ := HQQ.out r h1 h2
        subst f1
        exact he (by rw [HRR.out, h1]; exact h2))
      obtain ⟨e1, e2, e3⟩ := neL HT.out HS.out he
      clear he HA
      go_wp2
      exact bodyPost_ret (v := .tuple #[.slice none 0 0, .int .i64 5]) (by simp [results, Tryd.results13, go_sem]) rfl ⟨_, rfl, .empty _ _ rfl, K2.out⟩
end Go.Proofs.YthngnbaoaeomeaaDoor
