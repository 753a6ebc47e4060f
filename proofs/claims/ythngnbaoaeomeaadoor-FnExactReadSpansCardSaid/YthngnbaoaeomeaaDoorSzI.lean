/- ReadSpans: the program. -/
import Derived.Test.YthngnbaoaeomeaaDoorSzQ
import Derived.Test.YthngnbaoaeomeaaDoorSzV
namespace Go.Proofs.YthngnbaoaeomeaaDoor
open Go.ChangeShapes Go.WideShapes Go.ChangeAt Go.RowKit Go.Joins Go.Deep
set_option linter.unusedVariables false
set_option linter.unusedSimpArgs false

set_option maxRecDepth 100000 in
set_option maxHeartbeats 4000000 in
theorem implReadSpans_any (l : List UInt8) (w : World) (hl : l.length ≤ 1048576) (hE : ErrAt w) (L : List Sq) (Cc : Int) (hA : SzA l L Cc) :
    Calls Tryd.prog 23 #[.string (bsT l)] w (SzPost L Cc w) := by
  have HPW := Lib.hid (parseSpans_any l w hl hE)
  obtain ⟨S, hS⟩ : ∃ S, bsT l = S := ⟨_, rfl⟩
  rw [hS] at HPW ⊢
  have HA := Lib.hid hA
  have HS := Lib.hid hS
  clear hE hl hA hS
  go_enter Tryd.func23, Tryd.ntmps23
  go_wp2_with fail
  refine HPW.out.mono ?_
  rintro e w1 ⟨A, v, ok, rfl, hwf, h60, hs, hlen, hq, hb1⟩
  obtain ⟨va, vc, rfl⟩ := hs.form
  have HWF := Lib.hid hwf
  have HSL := Lib.hid hs
  have HLE := Lib.hid hlen
  have HQQ := Lib.hid hq
  have K1 := Lib.hid hb1
  have n1 := hb1.size
  clear HPW hwf hs hlen hq hb1
  cases ok with
  | false =>
    obtain ⟨rfl, rfl⟩ := HA.out.no (fun r h1 h2 => by have h3 := (HQQ.out r h1 h2).1; cases h3)
    clear HA HQQ
    go_wp2
    exact bodyPost_ret (v := .tuple #[.slice none 0 0, .int .i64 5]) (by simp [results, Tryd.results23, go_sem]) rfl ⟨_, rfl, .empty _ _ rfl, K1.out⟩
  | true =>
    obtain ⟨R, hR⟩ : ∃ R, spansB A = R := ⟨_, rfl⟩
    obtain ⟨T, hT⟩ : ∃ T, bsT (spansQ R A) = T := ⟨_, rfl⟩
    have HT := Lib.hid hT
    have HTX := Lib.hid (szText_sl _ _ (.slice va A.length vc) A w1 HSL.out HWF.out (by omega) R hR T hT)
    have HRR := Lib.hid (show szOk A = R from by unfold szOk; rw [decide_eq_true h60, hR]; rfl)
    clear hT hR
    go_wp2_with fail
    refine HTX.out.mono ?_
    rintro e w2 ⟨rfl, hb2⟩
    have K2 := Lib.hid (kTrans K1.out hb2)
    have HSL2 := Lib.hid (HSL.out.below hb2)
    have hw2s := hb2.size
    clear HTX hb2
    by_cases he : spansQ R A = l
    · have hR2 : R = true := by
        cases R with
        | true => rfl
        | false =>
          have h0 : l = [] := by rw [← he]; unfold spansQ; rw [if_neg (by simp)]
          have h2 : A = [] := HLE.out (by trivial) h0
          have h3 := HRR.out
          rw [h2] at h3
          cases h3
      obtain ⟨rfl, rfl⟩ := HA.out.yes (by rw [HRR.out]; exact hR2) (by unfold spansQ at he; rw [if_pos ⟨h60, hR2⟩] at he; exact he)
      obtain ⟨e1, e2, e3⟩ := eqL HT.out HS.out he
      clear he HA
      go_wp2
      exact bodyPost_ret (v := .tuple #[.slice va L.length vc, .int .i64 0]) (by simp [results, Tryd.results23, go_sem]) rfl ⟨_, rfl, HSL2.out.mono (Nat.le_refl _) (by omega), K2.out⟩
    · obtain ⟨rfl, rfl⟩ := HA.out.no (fun r h1 h2 => by
        obtain ⟨_, f1⟩ := HQQ.out r h1 h2
        subst f1
        exact he (by rw [← HRR.out, h1]; unfold spansQ; rw [if_pos ⟨h60, rfl⟩]; exact h2))
      obtain ⟨e1, e2, e3⟩ := neL HT.out HS.out he
      clear he HA
      go_wp2
      exact bodyPost_ret (v := .tuple #[.slice none 0 0, .int .i64 5]) (by simp [results, Tryd.results23, go_sem]) rfl ⟨_, rfl, .empty _ _ rfl, K2.out⟩
end Go.Proofs.YthngnbaoaeomeaaDoor
