/- CheckMerge: both sides. -/
import Derived.Test.YtebicgfoaefabaaDoorSn
import Derived.Test.YtebicgfoaefabaaDoorNo1
import Derived.Test.YtebicgfoaefabaaDoorIn
namespace Go.Proofs.YtebicgfoaefabaaDoor
open Go.ChangeShapes Go.WideShapes Go.ChangeAt Go.RowKit Go.Joins Go.Deep
set_option linter.unusedVariables false
set_option linter.unusedSimpArgs false

/-- each place of 'q' lies among the tables 'T'' and holds the table that stands beside it -/
def haveT (T' : List Int) : List Int → List Int → Bool
  | x :: q, t :: T => decide (0 ≤ x) && (decide (x < T'.length) && (decide (t = T'.getD x.toNat 0) && haveT T' q T))
  | _, _ => true
def haveO (q : List Int) : List Int → List Int → Bool
  | x :: p, y :: p' => decide (q.getD x.toNat 0 = y) && haveO q p p'
  | _, _ => true
theorem haveT_drop {T' q T : List Int} {j : Nat} (h : j < q.length) (h' : j < T.length) : haveT T' (q.drop j) (T.drop j) = (decide (0 ≤ q[j]) && (decide (q[j] < T'.length) && (decide (T[j] = T'.getD (q[j]).toNat 0) && haveT T' (q.drop (j + 1)) (T.drop (j + 1))))) := by
  rw [List.drop_eq_getElem_cons h, List.drop_eq_getElem_cons h']; rfl
theorem haveO_drop {q p p' : List Int} {j : Nat} (h : j < p.length) (h' : j < p'.length) : haveO q (p.drop j) (p'.drop j) = (decide (q.getD (p[j]).toNat 0 = p'[j]) && haveO q (p.drop (j + 1)) (p'.drop (j + 1))) := by
  rw [List.drop_eq_getElem_cons h, List.drop_eq_getElem_cons h']; rfl
theorem haveT_end {T' q T : List Int} {j : Nat} (h : q.length ≤ j) : haveT T' (q.drop j) (T.drop j) = true := by rw [List.drop_of_length_le h]; simp [haveT]
theorem haveO_end {q p p' : List Int} {j : Nat} (h : p.length ≤ j) : haveO q (p.drop j) (p'.drop j) = true := by rw [List.drop_of_length_le h]; simp [haveO]
def mergeQ (R1 R2 : Bool) (ni nj : Int) (l l' : List Nd) (p p' q : List Int) : Bool × Int :=
  if (R1 && R2) = true then ((decide (ni = nj) && decide ((p.length : Int) = p'.length)) && (decide (q.length = l.length) && (haveT (tabsL nj.toNat l' []) q (tabsL ni.toNat l []) && haveO q p p')), 0) else (false, 1)
theorem pair_BI {a c : Bool} {b d : Int} (h : (a, b) = (c, d)) : a = c ∧ b = d := by injection h with h1 h2; exact ⟨h1, h2⟩
theorem mergeQ_no1 {R2 : Bool} {ni nj : Int} {l l' : List Nd} {p p' q : List Int} {B : Bool} {C : Int} (h : mergeQ false R2 ni nj l l' p p' q = (B, C)) : B = false ∧ C = 1 := by
  unfold mergeQ at h; rw [if_neg (by simp)] at h; obtain ⟨h1, h2⟩ := pair_BI h; exact ⟨h1.symm, h2.symm⟩
theorem mergeQ_no2 {R1 : Bool} {ni nj : Int} {l l' : List Nd} {p p' q : List Int} {B : Bool} {C : Int} (h : mergeQ R1 false ni nj l l' p p' q = (B, C)) : B = false ∧ C = 1 := by
  unfold mergeQ at h; rw [if_neg (by simp)] at h; obtain ⟨h1, h2⟩ := pair_BI h; exact ⟨h1.symm, h2.symm⟩
theorem mergeQ_yes {n n' : Nat} {l l' : List Nd} {p p' q : List Int} {B : Bool} {C : Int} (h : mergeQ true true n n' l l' p p' q = (B, C)) :
    ((decide ((n : Int) = n') && decide ((p.length : Int) = p'.length)) && (decide (q.length = l.length) && (haveT (tabsL n' l' []) q (tabsL n l []) && haveO q p p'))) = B ∧ C = 0 := by
  unfold mergeQ at h; rw [if_pos (show (true && true) = true from rfl), Int.toNat_natCast, Int.toNat_natCast] at h; obtain ⟨h1, h2⟩ := pair_BI h; exact ⟨h1, h2.symm⟩
set_option maxRecDepth 100000 in
set_option maxHeartbeats 4000000 in
theorem areComparable_any (n n' b k b' k' : Nat) (l l' : List Nd) (p p' : List Int) (w : World) (F : Bool) (hF : (decide ((n : Int) = n') && decide ((p.length : Int) = p'.length)) = F) :
    Calls Tryd.prog 19 #[.agg #[.int .i8 n, .slice (some ⟨b, 0, none⟩) l.length l.length, .slice (some ⟨k, 0, none⟩) p.length p.length], .agg #[.int .i8 n', .slice (some ⟨b', 0, none⟩) l'.length l'.length, .slice (some ⟨k', 0, none⟩) p'.length p'.length]] w fun e w' => e = .returned (.bool F) ∧ Below w.heap.size w w' := by
  obtain ⟨W, hW⟩ : ∃ W, (w.alloc (.cells #[.int .i8 n, .slice (some ⟨b, 0, none⟩) l.length l.length, .slice (some ⟨k, 0, none⟩) p.length p.length] 32)).alloc (.cells #[.int .i8 n', .slice (some ⟨b', 0, none⟩) l'.length l'.length, .slice (some ⟨k', 0, none⟩) p'.length p'.length] 32) = W := ⟨_, rfl⟩
  have kW : Below w.heap.size w W := by rw [← hW]; exact kAlloc (kAlloc (Below.refl _ _) _) _
  have gA : NwAt W w.heap.size n (.slice (some ⟨b, 0, none⟩) l.length l.length) (.slice (some ⟨k, 0, none⟩) p.length p.length) := by rw [← hW]; exact (NwAt.box w n _ _ 32).below (kAlloc (Below.refl _ _) _) (by simp)
  have gB : NwAt W (w.heap.size + 1) n' (.slice (some ⟨b', 0, none⟩) l'.length l'.length) (.slice (some ⟨k', 0, none⟩) p'.length p'.length) := by
    rw [← hW]
    have h := NwAt.box (w.alloc (.cells #[.int .i8 n, .slice (some ⟨b, 0, none⟩) l.length l.length, .slice (some ⟨k, 0, none⟩) p.length p.length] 32)) n' (.slice (some ⟨b', 0, none⟩) l'.length l'.length) (.slice (some ⟨k', 0, none⟩) p'.length p'.length) 32
    simpa only [World.size_alloc] using h
  have la := gA.lt
  have lb := gB.lt
  have HW := Lib.hid hW
  obtain ⟨x0, x1, x2⟩ := gA
  obtain ⟨y0, y1, y2⟩ := gB
  generalize (n : Int) = ni at *
  generalize (n' : Int) = nj at *
  obtain ⟨r, hr⟩ : ∃ r, p.length = r := ⟨_, rfl⟩
  obtain ⟨r', hr'⟩ : ∃ r', p'.length = r' := ⟨_, rfl⟩
  rw [hr, hr'] at hF
  rw [hr] at x2 HW
  rw [hr'] at y2 HW
  rw [hr, hr']
  clear hr hr' hW la lb
  by_cases c0 : ni = nj
  · have c0' : (ni == nj) = true := by simpa using c0
    by_cases c1 : (r : Int) = r'
    · have c1' : ((r : Int) == (r' : Int)) = true := by simpa using c1
      have c1'' : (r == r') = true := by simp; omega
      obtain rfl : F = true := by rw [← hF]; simp only [c0, c1, decide_true, Bool.and_self]
      clear hF c0 c1
      go_enter Tryd.func19, Tryd.ntmps19
      go_upto_region 1 with fail
      try rw [HW.out]
      go_wp2
      go_ret
      exact ⟨rfl, kTrans kW (by repeat (first | with_reducible exact Below.refl _ _ | (with_reducible refine kSet ?_ ?hB _; case hB => (simp; try omega)) | with_reducible refine kAlloc ?_ _ | with_reducible refine Below.drew ?_ | with_reducible refine kDrewN ?_ _ | with_reducible refine kTrans ?_ (by assumption)))⟩
    · have c1' : ((r : Int) == (r' : Int)) = false := by simpa using c1
      have c1'' : (r == r') = false := by simp; omega
      have c1''' : ¬ r = r' := by omega
      obtain rfl : F = false := by rw [← hF]; simp only [c0, c1, decide_true, decide_false, Bool.and_false]
      clear hF c0 c1
      go_enter Tryd.func19, Tryd.ntmps19
      go_upto_region 1 with fail
      try rw [HW.out]
      go_wp2
      go_ret
      exact ⟨rfl, kTrans kW (by repeat (first | with_reducible exact Below.refl _ _ | (with_reducible refine kSet ?_ ?hB _; case hB => (simp; try omega)) | with_reducible refine kAlloc ?_ _ | with_reducible refine Below.drew ?_ | with_reducible refine kDrewN ?_ _ | with_reducible refine kTrans ?_ (by assumption)))⟩
  · have c0' : (ni == nj) = false := by simpa using c0
    obtain rfl : F = false := by rw [← hF]; simp only [c0, decide_false, Bool.false_and]
    clear hF c0
    go_enter Tryd.func19, Tryd.ntmps19
    go_upto_region 1 with fail
    try rw [HW.out]
    go_wp2
    go_ret
    exact ⟨rfl, kTrans kW (by repeat (first | with_reducible exact Below.refl _ _ | (with_reducible refine kSet ?_ ?hB _; case hB => (simp; try omega)) | with_reducible refine kAlloc ?_ _ | with_reducible refine Below.drew ?_ | with_reducible refine kDrewN ?_ _ | with_reducible refine kTrans ?_ (by assumption)))⟩
end Go.Proofs.YtebicgfoaefabaaDoor
