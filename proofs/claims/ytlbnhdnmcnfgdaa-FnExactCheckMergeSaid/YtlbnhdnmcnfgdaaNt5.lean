/- TablesOf: both sides. -/
import Derived.Test.YtlbnhdnmcnfgdaaNt4
namespace Go.Proofs.Ytlbnhdnmcnfgdaa
open Go.ChangeShapes Go.WideShapes Go.ChangeAt Go.RowKit Go.Joins Go.Deep
set_option linter.unusedVariables false
set_option linter.unusedSimpArgs false

theorem SlWUs.form2 {lo hi : Nat} {w : World} {l : List Int} {v : Value} (h : SlWUs lo hi w l v) : ∃ a c, v = .slice a l.length c := h.form
def UsPost (L : List Int) (C : Int) (w : World) (e : Ending) (w' : World) : Prop := ∃ v, e = .returned (.tuple #[v, .int .i64 C]) ∧ SlWUs w.heap.size w'.heap.size w' L v ∧ Below w.heap.size w w'
def tabQ (R : Bool) (n : Nat) (l : List Nd) : List Int × Int := if R = true then (tabsL n l [], 0) else ([], 1)
theorem pair_li {a c : List Int} {b d : Int} (h : (a, b) = (c, d)) : a = c ∧ b = d := by injection h with h1 h2; exact ⟨h1, h2⟩
theorem tabQ_ok {R : Bool} {ni : Int} {l : List Nd} {p : List Int} {L : List Int} {C : Int} (hR : R = netOk ni l p) (h : tabQ R ni.toNat l = (L, C)) : UssWf L ∧ L.length ≤ 1048576 := by
  cases R with
  | false => simp only [tabQ] at h; cases h; exact ⟨fun x hx => by simp at hx, by simp⟩
  | true =>
    have hp := netOk_parts hR.symm
    rw [← (pair_li (show (tabsL ni.toNat l [], (0 : Int)) = (L, C) from h)).1]
    exact ⟨tabsL_wf _ _ _ (fun x hx => by simp at hx), by rw [tabsL_length]; simp; omega⟩
set_option maxRecDepth 100000 in
set_option maxHeartbeats 4000000 in
theorem implTablesOf_any (b k : Nat) (ni : Int) (l : List Nd) (p : List Int) (w : World) (h : NK w b k l p) (h8 : NdsWf l) (h9 : ShsWf p) (bw : i8 ni) (m0 : l.length ≤ 1048576) (m1 : p.length ≤ 1048576) (R : Bool) (hR : R = netOk ni l p) (L : List Int) (C : Int) (hQ : tabQ R ni.toNat l = (L, C)) :
    Calls Try.prog 22 #[.agg #[.int .i8 ni, .slice (some ⟨b, 0, none⟩) l.length l.length, .slice (some ⟨k, 0, none⟩) p.length p.length]] w (UsPost L C w) := by
  have ka : Below w.heap.size w (w.alloc (.cells #[.int .i8 ni, .slice (some ⟨b, 0, none⟩) l.length l.length, .slice (some ⟨k, 0, none⟩) p.length p.length] 31)) := by repeat (first | with_reducible exact Below.refl _ _ | (with_reducible refine kSet ?_ ?hB _; case hB => (simp; try omega)) | with_reducible refine kAlloc ?_ _ | with_reducible refine Below.drew ?_ | with_reducible refine kDrewN ?_ _ | with_reducible refine kTrans ?_ (by assumption))
  have HV := Lib.hid (implValidNetwork_any b k ni l p _ (h.below ka) h8 h9 bw m0 m1 R hR)
  have bx := NwAt.box w ni (.slice (some ⟨b, 0, none⟩) l.length l.length) (.slice (some ⟨k, 0, none⟩) p.length p.length) 31
  have lb := bx.lt
  cases R with
  | false =>
    obtain ⟨rfl, rfl⟩ := pair_li (show (([] : List Int), (1 : Int)) = (L, C) from hQ)
    clear h h8 h9 hR hQ bx
    go_enter Try.func22, Try.ntmps22
    go_wp2_with fail
    refine HV.out.mono ?_
    rintro e w1 ⟨rfl, hb1⟩
    have T1 := kTrans ka hb1
    clear HV
    go_wp2
    exact bodyPost_ret (v := .tuple #[.slice none 0 0, .int .i64 1]) (by simp [results, Try.results22, go_sem]) rfl ⟨_, rfl, .empty _ _ rfl, T1⟩
  | true =>
    have hni := (netOk_parts hR.symm).1
    obtain ⟨n, rfl⟩ : ∃ n : Nat, ni = n := ⟨ni.toNat, by omega⟩
    obtain ⟨hL, rfl⟩ := pair_li (show (tabsL n l [], (0 : Int)) = (L, C) from hQ)
    have HT := Lib.hid (fun W (hW : Below w.heap.size w W) => tables_any n b k l p W (h.below hW) hR.symm)
    have BX := Lib.hid bx
    rw [hL] at HT
    clear h h8 h9 hR hQ bx hL hni
    go_enter Try.func22, Try.ntmps22
    go_wp2_with fail
    refine HV.out.mono ?_
    rintro e w1 ⟨rfl, hb1⟩
    have T1 := kTrans ka hb1
    obtain ⟨x0, x1, x2⟩ := BX.out.below hb1 lb
    clear HV hb1 BX lb
    go_wp2_with fail
    refine (HT.out _ T1).mono ?_
    rintro e w2 ⟨v, rfl, hv, hb2⟩
    obtain ⟨va, vc, rfl⟩ := hv.form
    have T2 := kTrans T1 hb2
    have HV2 := Lib.hid (hv.mono T1.size (Nat.le_refl _))
    clear hv hb2 x0 x1 x2 HT
    go_wp2
    exact bodyPost_ret (v := .tuple #[.slice va L.length vc, .int .i64 0]) (by simp [results, Try.results22, go_sem]) rfl ⟨_, rfl, HV2.out, T2⟩
set_option maxRecDepth 100000 in
set_option maxHeartbeats 4000000 in
theorem specTablesOf_any (b k : Nat) (ni : Int) (l : List Nd) (p : List Int) (w : World) (h : NK w b k l p) (h8 : NdsWf l) (h9 : ShsWf p) (bw : i8 ni) (m0 : l.length ≤ 1048576) (m1 : p.length ≤ 1048576) (R : Bool) (hR : R = netOk ni l p) (L : List Int) (C : Int) (hQ : tabQ R ni.toNat l = (L, C)) :
    Calls Try.prog 21 #[.agg #[.int .i8 ni, .slice (some ⟨b, 0, none⟩) l.length l.length, .slice (some ⟨k, 0, none⟩) p.length p.length]] w (UsPost L C w) := by
  have ka : Below w.heap.size w (w.alloc (.cells #[.int .i8 ni, .slice (some ⟨b, 0, none⟩) l.length l.length, .slice (some ⟨k, 0, none⟩) p.length p.length] 31)) := by repeat (first | with_reducible exact Below.refl _ _ | (with_reducible refine kSet ?_ ?hB _; case hB => (simp; try omega)) | with_reducible refine kAlloc ?_ _ | with_reducible refine Below.drew ?_ | with_reducible refine kDrewN ?_ _ | with_reducible refine kTrans ?_ (by assumption))
  have bx := NwAt.box w ni (.slice (some ⟨b, 0, none⟩) l.length l.length) (.slice (some ⟨k, 0, none⟩) p.length p.length) 31
  have HV := Lib.hid (l04Ok_any w.heap.size b k ni l p _ bx (h.below ka) h8 h9 bw m0 m1 R hR)
  have lb := bx.lt
  cases R with
  | false =>
    obtain ⟨rfl, rfl⟩ := pair_li (show (([] : List Int), (1 : Int)) = (L, C) from hQ)
    clear h h8 h9 hR hQ bx
    go_enter Try.func21, Try.ntmps21
    go_wp2_with fail
    refine HV.out.mono ?_
    rintro e w1 ⟨rfl, hb1⟩
    have T1 := kTrans ka hb1
    clear HV
    go_wp2
    exact bodyPost_ret (v := .tuple #[.slice (some ⟨w1.heap.size, 0, none⟩) 0 0, .int .i64 1]) (by simp [results, Try.results21, go_sem]) rfl ⟨_, rfl, .empty _ _ rfl, by repeat (first | with_reducible exact Below.refl _ _ | (with_reducible refine kSet ?_ ?hB _; case hB => (simp; try omega)) | with_reducible refine kAlloc ?_ _ | with_reducible refine Below.drew ?_ | with_reducible refine kDrewN ?_ _ | with_reducible refine kTrans ?_ (by assumption))⟩
  | true =>
    have hni := (netOk_parts hR.symm).1
    obtain ⟨n, rfl⟩ : ∃ n : Nat, ni = n := ⟨ni.toNat, by omega⟩
    obtain ⟨hL, rfl⟩ := pair_li (show (tabsL n l [], (0 : Int)) = (L, C) from hQ)
    have HT := Lib.hid (fun W (hW : Below (w.alloc (.cells #[.int .i8 n, .slice (some ⟨b, 0, none⟩) l.length l.length, .slice (some ⟨k, 0, none⟩) p.length p.length] 31)).heap.size (w.alloc (.cells #[.int .i8 n, .slice (some ⟨b, 0, none⟩) l.length l.length, .slice (some ⟨k, 0, none⟩) p.length p.length] 31)) W) => l04Tables_any n w.heap.size b k l p W (bx.below hW lb) ((h.below ka).below hW) hR.symm)
    rw [hL] at HT
    clear h h8 h9 hR hQ bx hL hni
    go_enter Try.func21, Try.ntmps21
    go_wp2_with fail
    refine HV.out.mono ?_
    rintro e w1 ⟨rfl, hb1⟩
    have T1 := kTrans ka hb1
    have HC := Lib.hid (HT.out _ hb1)
    clear HV hb1 lb HT
    go_wp2_with fail
    refine HC.out.mono ?_
    rintro e w2 ⟨v, rfl, hv, hb2⟩
    obtain ⟨va, vc, rfl⟩ := hv.form
    have T2 := kTrans T1 hb2
    have HV2 := Lib.hid (hv.mono T1.size (Nat.le_refl _))
    clear hv hb2
    go_wp2
    exact bodyPost_ret (v := .tuple #[.slice va L.length vc, .int .i64 0]) (by simp [results, Try.results21, go_sem]) rfl ⟨_, rfl, HV2.out, T2⟩
end Go.Proofs.Ytlbnhdnmcnfgdaa
