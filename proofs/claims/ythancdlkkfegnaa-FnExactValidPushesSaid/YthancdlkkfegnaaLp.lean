/- LaterPushes: the model. -/
import Derived.Test.YthancdlkkfegnaaPuk
namespace Go.Proofs.Ythancdlkkfegnaa
open Go.ChangeShapes Go.WideShapes Go.ChangeAt Go.RowKit Go.Joins Go.Deep
set_option linter.unusedVariables false

def laterOne (by' : Int) (p : Pu) : Bool := decide (0 ≤ p.tick ∧ p.tick ≤ 1000 ∧ 0 ≤ p.tick + by' ∧ p.tick + by' ≤ 1000)
def moved (by' : Int) (p : Pu) : Pu := ⟨p.x, p.y, p.side, p.tick + by'⟩
def laterOk (by' : Int) : List Pu → Bool
  | [] => true
  | p :: l => laterOne by' p && laterOk by' l
def laterQ (by' : Int) (l : List Pu) : List Pu × Int :=
  if -1000 ≤ by' ∧ by' ≤ 1000 then (if l.length ≤ 20 then (if laterOk by' l = true then (l.map (moved by'), 0) else ([], 3)) else ([], 3)) else ([], 2)
def PushPost (lr : List Pu) (C : Int) (w : World) (e : Ending) (w' : World) : Prop :=
  ∃ v, e = .returned (.tuple #[v, .int .i64 C]) ∧ SlWPu w.heap.size w'.heap.size w' lr v ∧ Below w.heap.size w w'
theorem pair_inj {a c : List Pu} {b d : Int} (h : (a, b) = (c, d)) : a = c ∧ b = d := by injection h with h1 h2; exact ⟨h1, h2⟩
theorem i16_of {n : Int} (h : (Lit.int .i16 n).wf = true) : -32768 ≤ n ∧ n ≤ 32767 := bounds_i16 h

set_option maxRecDepth 100000 in
set_option maxHeartbeats 4000000 in
theorem specLaterPushes_any (b n : Nat) (by' : Int) (l : List Pu) (w : World) (hn : l.length = n) (hp : PusAt w b 0 l) (hb : b < w.heap.size) (hw : PusWf l) (bb : -9223372036854775808 ≤ by' ∧ by' ≤ 9223372036854775807) (hmax : n ≤ 1048576) (lr : List Pu) (C : Int) (hQ : laterQ by' l = (lr, C)) :
    Calls Try.prog 61 #[.slice (some ⟨b, 0, none⟩) n n, .int .i64 by'] w (PushPost lr C w) := by
  by_cases h1 : -1000 ≤ by' ∧ by' ≤ 1000
  · by_cases h2 : n ≤ 20
    · obtain ⟨R, hR⟩ : ∃ R, laterOk by' l = R := ⟨_, rfl⟩
      have HR : Hid (laterOk by' (l.drop 0) = R) := Lib.hid hR
      have HRl := Lib.hid hR
      obtain ⟨M, hM⟩ : ∃ M, M = l.map (moved by') := ⟨_, rfl⟩
      have HM := Lib.hid hM
      clear hM
      have Hn := Lib.hid hn
      have HQ := Lib.hid hQ
      have HW := Lib.hid hw
      have hgt : decide ((20 : Int) < (n : Int)) = false := by simp; omega
      have hgt2 : decide (20 < n) = false := by simp; omega
      obtain ⟨i0, hi0, hz0, hzz1, hzz2⟩ := info_parts info_Pu
      have Hi := Lib.hid hi0
      have Hz0 := Lib.hid hz0
      have Hz1 := Lib.hid hzz1
      have Hz2 := Lib.hid hzz2
      have own0 : Hid ((w.alloc (.cells #[] 133)).ownsRow w.heap.size 133 4 (.slice (some ⟨w.heap.size, 0, none⟩) 0 0) 0 (flatPu (M.take 0))) := Lib.hid (owns_new (Nat.le_refl _) (heap_alloc_new _ _))
      have hk0 : Below w.heap.size w (w.alloc (.cells #[] 133)) := by repeat (first | with_reducible exact Below.refl _ _ | (with_reducible refine kSet ?_ ?hB _; case hB => (simp; try omega)) | with_reducible refine kAlloc ?_ _ | with_reducible refine Below.drew ?_ | with_reducible refine kDrewN ?_ _ | with_reducible refine kTrans ?_ (by assumption))
      clear hn hR hQ hw hi0 hz0 hzz1 hzz2
      go_enter Try.func61, Try.ntmps61
      go_wp2_with fail
      refine (l00In_yes _ _ _ _ (by omega) (by omega)).mono ?_
      rintro e w1 ⟨rfl, rfl⟩
      go_wp2
      go_loopw [6, 7, 8, 9] (fun out i _ _ wr => ∃ k : Nat, k ≤ n ∧ i = .int .i64 k ∧ Hid (laterOk by' (l.drop k) = R) ∧ Hid (wr.ownsRow w.heap.size 133 4 out k (flatPu (M.take k))) ∧ (R = true ∨ R = false) ∧ Below w.heap.size w wr) (fun _ i _ _ _ => n - (intOf i).toNat)
      case atStart => exact ⟨0, by omega, rfl, HR, own0, by cases R <;> simp, hk0⟩
      case round =>
        obtain ⟨k, hk, rfl, hf, hown, _, hbr⟩ := hrel
        obtain ⟨va, vc, rfl⟩ := owns_slice hown.out
        by_cases hlt : k < n
        · have hlk : k < l.length := by rw [Hn.out]; exact hlt
          have hpa := (hp.below hbr hb) k hlk
          have hwf := HW.out _ (List.getElem_mem hlk)
          have hd : l.drop k = l[k] :: l.drop (k + 1) := List.drop_eq_getElem_cons hlk
          have htk : M.take (k + 1) = M.take k ++ [moved by' l[k]] := by
            rw [List.take_succ_eq_append_getElem (by rw [HM.out, List.length_map]; exact hlk)]; simp [HM.out]
          generalize l[k] = p at hpa hwf hd htk
          have hq := hf.out
          rw [hd] at hq
          have ht := i16_of hwf.2.2.2
          obtain ⟨a0, a1, a2, a3⟩ := hpa
          simp only [Nat.zero_add] at a0 a1 a2 a3
          have Htk := Lib.hid htk
          have Hblk := Lib.hid (owns_block hown.out)
          clear hp hd htk hwf hf HR own0 hk0
          by_cases g1 : 0 ≤ p.tick ∧ p.tick ≤ 1000
          · go_wp2_with fail
            refine (l00In_yes _ _ _ _ (by omega) (by omega)).mono ?_
            rintro e w2 ⟨rfl, rfl⟩
            by_cases g2 : 0 ≤ p.tick + by' ∧ p.tick + by' ≤ 1000
            · have hR2 : Hid (laterOk by' (l.drop (k + 1)) = R) := Lib.hid (by rw [← hq]; simp [laterOk, laterOne, g1, g2])
              clear hq
              go_wp2_with fail
              refine (l00In_yes _ _ _ _ (by omega) (by omega)).mono ?_
              rintro e w3 ⟨rfl, rfl⟩
              go_wp2_with (at_builtin; refine wpList_append_own _ rfl _ _ 78 rfl w.heap.size 133 i0 _ 4 6 Try.underlying78 Hi.out Hz0.out Hz1.out Hz2.out rfl (by decide) (.slice va k vc) k (flatPu (M.take k)) rfl (owns_below hown.out (by repeat (first | with_reducible exact Below.refl _ _ | (with_reducible refine kSet ?_ ?hB _; case hB => (simp; try omega)) | with_reducible refine kAlloc ?_ _ | with_reducible refine Below.drew ?_ | with_reducible refine kDrewN ?_ _ | with_reducible refine kTrans ?_ (by assumption)))) ⟨wr.heap.size + 1, 0, none⟩ 1 1 (moved by' p).cells rfl rfl (World.news_of_block (cs := #[.int .i8 p.x, .int .i8 p.y, .int .i8 p.side, .int .i16 (p.tick + by')]) (heap_two _ _ _)) (Pu_one _) ?qc4 ?qc5 ?qc6 ?_)
              case qc4 => unfold maxLen; omega
              case qc5 => omega
              case qc6 => have := hbr.size; simp; omega
              intro v6 w6 hown6 hgr hnil
              have Hown6 := Lib.hid (show w6.ownsRow w.heap.size 133 4 v6 (k + 1) (flatPu (M.take (k + 1))) by rw [Htk.out, flatPu_end]; exact hown6)
              have T6 : Below w.heap.size w w6 := grown_below (v := .slice va k vc) (by repeat (first | with_reducible exact Below.refl _ _ | (with_reducible refine kSet ?_ ?hB _; case hB => (simp; try omega)) | with_reducible refine kAlloc ?_ _ | with_reducible refine Below.drew ?_ | with_reducible refine kDrewN ?_ _ | with_reducible refine kTrans ?_ (by assumption))) hgr (by intro q hq; exact (Hblk.out q hq).1)
              clear hown6 hgr hnil hown
              go_wp2
              exact ⟨⟨k + 1, by omega, by go_num, hR2, Hown6, by cases R <;> simp, T6⟩, by simp [intOf]; omega⟩
            · obtain rfl : R = false := by rw [← hq]; simp [laterOk, laterOne, g1]; intro h3 h4; exact absurd ⟨h3, h4⟩ g2
              obtain ⟨rfl, rfl⟩ := pair_inj (HQ.out.symm.trans (by unfold laterQ; rw [if_pos h1, if_pos (by rw [Hn.out]; exact h2), if_neg (by rw [HRl.out]; simp)]) : (lr, C) = ([], 3))
              clear hq hown
              go_wp2_with fail
              refine (l00In_no _ _ _ _ (by omega)).mono ?_
              rintro e w3 ⟨rfl, rfl⟩
              go_wp2
              exact bodyPost_ret (v := .tuple #[.slice (some ⟨wr.heap.size + 1, 0, none⟩) 0 0, .int .i64 3]) (by simp [results, Try.results61, go_sem]) rfl ⟨_, rfl, .empty _ _ rfl, by repeat (first | with_reducible exact Below.refl _ _ | (with_reducible refine kSet ?_ ?hB _; case hB => (simp; try omega)) | with_reducible refine kAlloc ?_ _ | with_reducible refine Below.drew ?_ | with_reducible refine kDrewN ?_ _ | with_reducible refine kTrans ?_ (by assumption))⟩
          · obtain rfl : R = false := by rw [← hq]; simp [laterOk, laterOne]; intro h3 h4; exact absurd ⟨h3, h4⟩ g1
            obtain ⟨rfl, rfl⟩ := pair_inj (HQ.out.symm.trans (by unfold laterQ; rw [if_pos h1, if_pos (by rw [Hn.out]; exact h2), if_neg (by rw [HRl.out]; simp)]) : (lr, C) = ([], 3))
            clear hq hown
            go_wp2_with fail
            refine (l00In_no _ _ _ _ (by omega)).mono ?_
            rintro e w2 ⟨rfl, rfl⟩
            go_wp2
            exact bodyPost_ret (v := .tuple #[.slice (some ⟨wr.heap.size + 1, 0, none⟩) 0 0, .int .i64 3]) (by simp [results, Try.results61, go_sem]) rfl ⟨_, rfl, .empty _ _ rfl, by repeat (first | with_reducible exact Below.refl _ _ | (with_reducible refine kSet ?_ ?hB _; case hB => (simp; try omega)) | with_reducible refine kAlloc ?_ _ | with_reducible refine Below.drew ?_ | with_reducible refine kDrewN ?_ _ | with_reducible refine kTrans ?_ (by assumption))⟩
        · obtain rfl : k = n := by omega
          obtain rfl : R = true := by rw [← hf.out, List.drop_of_length_le (by rw [Hn.out]; omega)]; rfl
          obtain ⟨hlr, rfl⟩ := pair_inj (HQ.out.symm.trans (by unfold laterQ; rw [if_pos h1, if_pos (by rw [Hn.out]; exact h2), if_pos HRl.out]) : (lr, C) = (l.map (moved by'), 0))
          have hM2 : M.take k = lr := by rw [hlr, ← HM.out, List.take_of_length_le (by rw [HM.out, List.length_map, Hn.out]; omega)]
          have ho := hown.out
          rw [hM2] at ho
          have Ho := Lib.hid ho
          clear hlr hM2 ho hown hf hp HR own0 hk0
          go_wp2
          exact bodyPost_ret (v := .tuple #[.slice va k vc, .int .i64 0]) (by simp [results, Try.results61, go_sem]) rfl ⟨_, rfl, SlWPu.of_owns Ho.out, hbr⟩
    · obtain ⟨rfl, rfl⟩ := pair_inj (hQ.symm.trans (by unfold laterQ; rw [if_pos h1, if_neg (by rw [hn]; exact h2)]) : (lr, C) = ([], 3))
      have hgt : decide ((20 : Int) < (n : Int)) = true := by simp; omega
      have hgt2 : decide (20 < n) = true := by simp; omega
      clear hQ hn hp hw
      go_enter Try.func61, Try.ntmps61
      go_wp2_with fail
      refine (l00In_yes _ _ _ _ (by omega) (by omega)).mono ?_
      rintro e w1 ⟨rfl, rfl⟩
      go_wp2
      exact bodyPost_ret (v := .tuple #[.slice (some ⟨w.heap.size, 0, none⟩) 0 0, .int .i64 3]) (by simp [results, Try.results61, go_sem]) rfl ⟨_, rfl, .empty _ _ rfl, by repeat (first | with_reducible exact Below.refl _ _ | (with_reducible refine kSet ?_ ?hB _; case hB => (simp; try omega)) | with_reducible refine kAlloc ?_ _ | with_reducible refine Below.drew ?_ | with_reducible refine kDrewN ?_ _ | with_reducible refine kTrans ?_ (by assumption))⟩
  · obtain ⟨rfl, rfl⟩ := pair_inj (hQ.symm.trans (by unfold laterQ; rw [if_neg h1]) : (lr, C) = ([], 2))
    clear hQ hn hp hw
    go_enter Try.func61, Try.ntmps61
    go_wp2_with fail
    refine (l00In_no _ _ _ _ (by omega)).mono ?_
    rintro e w1 ⟨rfl, rfl⟩
    go_wp2
    exact bodyPost_ret (v := .tuple #[.slice (some ⟨w.heap.size, 0, none⟩) 0 0, .int .i64 2]) (by simp [results, Try.results61, go_sem]) rfl ⟨_, rfl, .empty _ _ rfl, by repeat (first | with_reducible exact Below.refl _ _ | (with_reducible refine kSet ?_ ?hB _; case hB => (simp; try omega)) | with_reducible refine kAlloc ?_ _ | with_reducible refine Below.drew ?_ | with_reducible refine kDrewN ?_ _ | with_reducible refine kTrans ?_ (by assumption))⟩
end Go.Proofs.Ythancdlkkfegnaa
