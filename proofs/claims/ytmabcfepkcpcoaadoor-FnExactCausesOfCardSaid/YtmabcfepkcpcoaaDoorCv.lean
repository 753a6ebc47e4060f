/- slices.Reverse at []int64. -/
import Derived.Test.YtmabcfepkcpcoaaDoorIn
import Derived.Test.YtmabcfepkcpcoaaDoorG8
import Derived.Shelf.RegionOpenPlain
import Derived.Deep.LoopGhost
namespace Go.Proofs.YtmabcfepkcpcoaaDoor
open Go.ChangeShapes Go.WideShapes Go.ChangeAt Go.RowKit Go.Shelf
set_option linter.unusedVariables false
set_option linter.unusedSimpArgs false

/-- n numbers from o on, that may be written -/
structure IRow (w : World) (g o n : Nat) (F : Nat → Int) : Prop where
  lt : g < w.heap.size
  at_ : ∀ k, k < n → w.cell? ⟨g, o + k, none⟩ = some (.int .i64 (F k))
  fz : ∀ j, w.frozen? ⟨g, j, none⟩ = false
theorem IRow.put {w : World} {g o n k : Nat} {F : Nat → Int} {v : Int} (h : IRow w g o n F) (hk : k < n) : IRow (w.setCell ⟨g, o + k, none⟩ (.int .i64 v)) g o n (set_ F k v) := by
  refine ⟨by simpa [World.setCell] using h.lt, fun i hi => ?_, fun i => by rw [World.frozen?_setCell]; exact h.fz i⟩
  by_cases e : i = k
  · subst e
    rw [set_same]
    exact World.cell?_setCell_same _ _ _ (h.at_ i hi)
  · rw [set_ne _ _ e, World.cell?_setCell_other _ _ _ _ (by intro x; injection x with _ x2 _; omega)]
    exact h.at_ i hi
theorem IRow.congr {w : World} {g o n : Nat} {F H : Nat → Int} (h : IRow w g o n F) (e : ∀ k, k < n → F k = H k) : IRow w g o n H := ⟨h.lt, fun k hk => by rw [← e k hk]; exact h.at_ k hk, h.fz⟩
/-- the first k and the last k are exchanged -/
def revK (F : Nat → Int) (n k : Nat) : Nat → Int := fun x => if x < k ∨ n ≤ x + k then F (n - 1 - x) else F x
theorem revK_step {F : Nat → Int} {n k : Nat} (h : k + k + 1 < n) : ∀ x, x < n → set_ (set_ (revK F n k) k (F (n - 1 - k))) (n - 1 - k) (F k) x = revK F n (k + 1) x := by
  intro x hx
  unfold revK
  by_cases e2 : x = n - 1 - k
  · subst e2
    rw [set_same, if_pos (by omega)]
    congr 1; omega
  · rw [set_ne _ _ e2]
    by_cases e1 : x = k
    · subst e1
      rw [set_same, if_pos (by omega)]
    · rw [set_ne _ _ e1]
      by_cases h3 : x < k ∨ n ≤ x + k
      · rw [if_pos h3, if_pos (by omega)]
      · rw [if_neg h3, if_neg (by omega)]
theorem revK_end {F : Nat → Int} {n k : Nat} (h : ¬ k + k + 1 < n) : ∀ x, x < n → revK F n k x = F (n - 1 - x) := by
  intro x hx
  unfold revK
  by_cases h3 : x < k ∨ n ≤ x + k
  · rw [if_pos h3]
  · rw [if_neg h3]
    congr 1; omega
theorem kOutDrew {lo hi : Nat} {w w' : World} (h : KeptOut lo hi w w') : KeptOut lo hi w w'.drew := ⟨h.os, h.tape, h.output, h.size, h.block⟩
set_option maxRecDepth 1000000 in
set_option maxHeartbeats 4000000 in
theorem reverse_mk (g o n cap : Nat) (F : Nat → Int) (w : World) (hr : IRow w g o n F) (hle : n ≤ cap) (hmax : n ≤ 1048576) :
    Calls Tryd.prog 112 #[.slice (some ⟨g, o, none⟩) n cap] w fun e w' => e = .returned (.tuple #[]) ∧ IRow w' g o n (fun x => F (n - 1 - x)) ∧ KeptOut g (g + 1) w w' := by
  have Hr : Hid (IRow w g o n (revK F n 0)) := Lib.hid (hr.congr (fun x hx => by unfold revK; rw [if_neg (by omega)]))
  clear hr
  go_enter Tryd.func112, Tryd.ntmps112
  go_wp2
  go_loopg [2, 3] n (fun kg iv jv wr => ∃ k : Nat, iv = .int .i64 k ∧ jv = .int .i64 ((n : Int) - 1 - k) ∧ k + kg = n ∧ Hid (IRow wr g o n (revK F n k)) ∧ KeptOut g (g + 1) w wr)
  case atStart => exact ⟨0, rfl, by simp, by omega, Hr, KeptOut.of_below (Below.refl _ _)⟩
  case round =>
    clear Hr
    obtain ⟨k, rfl, rfl, hk, hrow, hkp⟩ := hrel
    by_cases hlt : k + k + 1 < n
    · obtain ⟨j, hj⟩ : ∃ j : Nat, n - 1 - k = j := ⟨_, rfl⟩
      have hji : (n : Int) - 1 - k = (j : Int) := by omega
      rw [hji]
      have hkj : (k : Int) < (j : Int) := by omega
      have hkn : k < n := by omega
      have hjn : j < n := by omega
      have a0 := hrow.out.at_ k hkn
      have b0 := hrow.out.at_ j hjn
      rw [show revK F n k k = F k by unfold revK; rw [if_neg (by omega)]] at a0
      rw [show revK F n k j = F j by unfold revK; rw [if_neg (by omega)]] at b0
      have za := hrow.out.fz (o + k)
      have zb := hrow.out.fz (o + j)
      have hne : k ≠ j := by omega
      have mixed : Tryd.prog.follows .mixedOrders = true := by kernel_rfl
      have R1 : Hid (IRow ((wr.setCell ⟨g, o + k, none⟩ (.int .i64 (F j))).setCell ⟨g, o + j, none⟩ (.int .i64 (F k))) g o n (revK F n (k + 1))) := Lib.hid ((((hrow.out.put hkn).put hjn)).congr (fun x hx => by rw [← hj]; exact revK_step hlt x hx))
      have K1 : Hid (KeptOut g (g + 1) w ((wr.setCell ⟨g, o + k, none⟩ (.int .i64 (F j))).setCell ⟨g, o + j, none⟩ (.int .i64 (F k)))) := Lib.hid ((hkp.set ⟨g, o + k, none⟩ (Nat.le_refl _) (Nat.lt_succ_self _) _).set ⟨g, o + j, none⟩ (Nat.le_refl _) (Nat.lt_succ_self _) _)
      have hs : ∀ x y : Int, set_ (set_ (revK F n k) j x) k y = set_ (set_ (revK F n k) k y) j x := by
        intro x y; funext z; unfold set_
        by_cases e1 : z = k
        · rw [if_pos e1, if_neg (by omega), if_pos e1]
        · rw [if_neg e1]
          by_cases e2 : z = j
          · rw [if_pos e2, if_pos e2]
          · rw [if_neg e2, if_neg e2, if_neg e1]
      have R2 : Hid (IRow ((wr.setCell ⟨g, o + j, none⟩ (.int .i64 (F k))).setCell ⟨g, o + k, none⟩ (.int .i64 (F j))) g o n (revK F n (k + 1))) := Lib.hid ((((hrow.out.put hjn).put hkn)).congr (fun x hx => by rw [hs, ← hj]; exact revK_step hlt x hx))
      have K2 : Hid (KeptOut g (g + 1) w ((wr.setCell ⟨g, o + j, none⟩ (.int .i64 (F k))).setCell ⟨g, o + k, none⟩ (.int .i64 (F j)))) := Lib.hid ((hkp.set ⟨g, o + j, none⟩ (Nat.le_refl _) (Nat.lt_succ_self _) _).set ⟨g, o + k, none⟩ (Nat.le_refl _) (Nat.lt_succ_self _) _)
      clear hrow hkp hs
      go_wp2_with fail
      go_region_o
      all_goals
        clear a0 b0 za zb
        go_wp2
        go_roundg (gk - 1)
        case measure => omega
        case rel => first
          | exact ⟨k + 1, by go_num, by congr 1; omega, by omega, Lib.hid ⟨R1.out.lt, R1.out.at_, R1.out.fz⟩, kOutDrew K1.out⟩
          | exact ⟨k + 1, by go_num, by congr 1; omega, by omega, Lib.hid ⟨R2.out.lt, R2.out.at_, R2.out.fz⟩, kOutDrew K2.out⟩
    · have hge : ¬ (k : Int) < (n : Int) - 1 - k := by omega
      have hfin := Lib.hid (hrow.out.congr (fun x hx => revK_end hlt x hx))
      clear hrow
      go_wp2
      go_end0
      exact ⟨rfl, hfin.out, hkp⟩
end Go.Proofs.YtmabcfepkcpcoaaDoor
