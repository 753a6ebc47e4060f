/- CheckMerge: haveOutputs. -/
import Derived.Test.YtlbnhdnmcnfgdaaCm0
namespace Go.Proofs.Ytlbnhdnmcnfgdaa
open Go.ChangeShapes Go.WideShapes Go.ChangeAt Go.RowKit Go.Joins Go.Deep
set_option linter.unusedVariables false
set_option linter.unusedSimpArgs false

set_option maxRecDepth 100000 in
set_option maxHeartbeats 8000000 in
theorem haveOutputs_any (n n' b k b' k' qb : Nat) (l l' : List Nd) (p p' q : List Int) (w : World) (h : NK w b k l p) (hok : netOk n l p = true) (h' : NK w b' k' l' p') (hok' : netOk n' l' p' = true) (hq : InsAt w qb 0 q) (zq : qb < w.heap.size) (hlq : q.length = l.length) (hpp : p.length = p'.length) (F : Bool) (hF : haveO q p p' = F) :
    Calls Try.prog 70 #[.agg #[.int .i8 n, .slice (some ⟨b, 0, none⟩) l.length l.length, .slice (some ⟨k, 0, none⟩) p.length p.length], .agg #[.int .i8 n', .slice (some ⟨b', 0, none⟩) l'.length l'.length, .slice (some ⟨k', 0, none⟩) p'.length p'.length], .slice (some ⟨qb, 0, none⟩) q.length q.length] w fun e w' => e = .returned (.bool F) ∧ Below w.heap.size w w' := by
  obtain ⟨W, hW⟩ : ∃ W, (w.alloc (.cells #[.int .i8 n, .slice (some ⟨b, 0, none⟩) l.length l.length, .slice (some ⟨k, 0, none⟩) p.length p.length] 31)).alloc (.cells #[.int .i8 n', .slice (some ⟨b', 0, none⟩) l'.length l'.length, .slice (some ⟨k', 0, none⟩) p'.length p'.length] 31) = W := ⟨_, rfl⟩
  have kW : Below w.heap.size w W := by rw [← hW]; exact kAlloc (kAlloc (Below.refl _ _) _) _
  have gA : NwAt W w.heap.size n (.slice (some ⟨b, 0, none⟩) l.length l.length) (.slice (some ⟨k, 0, none⟩) p.length p.length) := by rw [← hW]; exact (NwAt.box w n _ _ 31).below (kAlloc (Below.refl _ _) _) (by simp)
  have gB : NwAt W (w.heap.size + 1) n' (.slice (some ⟨b', 0, none⟩) l'.length l'.length) (.slice (some ⟨k', 0, none⟩) p'.length p'.length) := by
    rw [← hW]
    have h := NwAt.box (w.alloc (.cells #[.int .i8 n, .slice (some ⟨b, 0, none⟩) l.length l.length, .slice (some ⟨k, 0, none⟩) p.length p.length] 31)) n' (.slice (some ⟨b', 0, none⟩) l'.length l'.length) (.slice (some ⟨k', 0, none⟩) p'.length p'.length) 31
    simpa only [World.size_alloc] using h
  have la := gA.lt
  have lb := gB.lt
  have HP := Lib.hid (fun W2 (h2 : Below w.heap.size w W2) => (h.below h2).p1)
  have HP' := Lib.hid (fun W2 (h2 : Below w.heap.size w W2) => (h'.below h2).p1)
  have HX := Lib.hid (fun W2 (h2 : Below W.heap.size W W2) => gA.below h2 la)
  have HY := Lib.hid (fun W2 (h2 : Below W.heap.size W W2) => gB.below h2 lb)
  have zk := h.z1
  have zk' := h'.z1
  have hp := netOk_parts hok
  have hp' := netOk_parts hok'
  have HR := Lib.hid (outsOkN_all hp.2.2.2.2)
  have HR' := Lib.hid (outsOkN_all hp'.2.2.2.2)
  obtain ⟨r, hr⟩ : ∃ r, p.length = r := ⟨_, rfl⟩
  obtain ⟨m, hm⟩ : ∃ m, l.length = m := ⟨_, rfl⟩
  obtain ⟨m', hm'⟩ : ∃ m', l'.length = m' := ⟨_, rfl⟩
  have hr' : p'.length = r := by omega
  have hnq : q.length = m := by omega
  have Hr := Lib.hid hr
  have Hr' := Lib.hid hr'
  have Hnq := Lib.hid hnq
  have r8 : r ≤ 8 := by omega
  have m80 : m ≤ 80 := by omega
  have m80' : m' ≤ 80 := by omega
  have HQ := Lib.hid (fun W2 (h2 : Below w.heap.size w W2) => hq.below h2 zq)
  have HF0 : Hid (haveO q (p.drop 0) (p'.drop 0) = F) := Lib.hid hF
  rw [hm, hr] at hW gA HX
  rw [hm', hr'] at hW gB HY
  rw [hm] at HR
  rw [hm'] at HR'
  rw [hm, hr, hm', hr', hnq]
  have HW := Lib.hid hW
  obtain ⟨x0, x1, x2⟩ := gA
  clear hW h hok h' hok' hq hlq hpp hF hp hp' hr hm hm' hr' hnq gB
  go_enter Try.func70, Try.ntmps70
  go_upto_region 1 with fail
  try rw [HW.out]
  go_wp2
  go_loopw [7, 8, 12] (fun _ _ i wr => ∃ j : Nat, j ≤ r ∧ i = .int .i64 j ∧ Hid (haveO q (p.drop j) (p'.drop j) = F) ∧ Below W.heap.size W wr) (fun _ _ i _ => r - (intOf i).toNat)
  case atStart => exact ⟨0, by omega, rfl, HF0, by first | exact Below.refl _ _ | exact Below.drew (Below.refl _ _)⟩
  case round =>
    clear HF0 x0 x1 x2
    obtain ⟨j, hj, rfl, hf, hbr⟩ := hrel
    have Tr := kTrans kW hbr
    by_cases hlt : j < r
    · have hlk : j < p.length := by rw [Hr.out]; exact hlt
      have hlk' : j < p'.length := by rw [Hr'.out]; exact hlt
      have cp := (HP.out wr Tr) j hlk
      have cp' := (HP'.out wr Tr) j hlk'
      have hx := HR.out _ (List.getElem_mem hlk)
      have hy := HR'.out _ (List.getElem_mem hlk')
      obtain ⟨y0, y1, y2⟩ := HY.out wr hbr
      have hf2 := hf.out
      rw [haveO_drop hlk hlk'] at hf2
      have kq := Nat.lt_of_lt_of_le zq Tr.size
      have kk := Nat.lt_of_lt_of_le zk Tr.size
      have kk' := Nat.lt_of_lt_of_le zk' Tr.size
      generalize p[j] = x at cp hf2 hx
      generalize p'[j] = y at cp' hf2 hy
      simp only [Nat.zero_add] at cp cp'
      obtain ⟨kx, rfl⟩ : ∃ kx : Nat, x = kx := ⟨x.toNat, by omega⟩
      have hkq : kx < q.length := by rw [Hnq.out]; omega
      have hkm : kx < m := by omega
      have cq := (HQ.out wr Tr) kx hkq
      rw [Int.toNat_natCast, getD_at hkq] at hf2
      generalize q[kx] = z at cq hf2
      simp only [Nat.zero_add] at cq
      have hwy : IntKind.i64.wrap y = y := IntWalk.i64_in _ (by omega)
      clear hf
      by_cases c2 : z = y
      · have hf3 : Hid (haveO q (p.drop (j + 1)) (p'.drop (j + 1)) = F) := Lib.hid (by rw [← hf2]; simp [c2])
        have c2' : (z == y) = true := by simpa using c2
        clear hf2 c2
        go_wp2
        go_quiet (fail)
        go_wp2
        exact ⟨⟨j + 1, by omega, by go_num, hf3, kDrewN hbr _⟩, by simp [intOf]; omega⟩
      · obtain rfl : F = false := by rw [← hf2]; simp [c2]
        have c2' : (z == y) = false := by simpa using c2
        clear hf2 c2
        go_wp2
        go_quiet (fail)
        go_wp2
        go_ret
        exact ⟨rfl, kDrewN Tr _⟩
    · obtain rfl : j = r := by omega
      obtain rfl : F = true := by rw [← hf.out]; exact haveO_end (by rw [Hr.out]; exact Nat.le_refl _)
      clear hf
      go_wp2
      go_ret
      exact ⟨rfl, Tr⟩
end Go.Proofs.Ytlbnhdnmcnfgdaa
