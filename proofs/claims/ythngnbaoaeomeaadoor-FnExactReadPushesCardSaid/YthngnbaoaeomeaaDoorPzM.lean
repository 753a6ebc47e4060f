/- ReadPush..: the model. -/
import Derived.Test.YthngnbaoaeomeaaDoorPz0
import Derived.Test.YthngnbaoaeomeaaDoorG7
import Derived.Deep.DeepCutAuto
namespace Go.Proofs.YthngnbaoaeomeaaDoor
open Go.ChangeShapes Go.WideShapes Go.ChangeAt Go.RowKit Go.Joins Go.Deep
set_option linter.unusedVariables false
set_option linter.unusedSimpArgs false

set_option maxHeartbeats 2000000 in
theorem l02PushesC_any (b o n cap : Nat) (hcap : n ≤ cap) (l : List Pu) (w : World) (hn : l.length = n) (hp : PusAt w b o l) (hb : b < w.heap.size) (hw : PusWf l) (hmax : n ≤ 1048576) (R : Bool) (hR : R = (decide (n ≤ 20) && plains l)) :
    Calls Tryd.prog 43 #[.slice (some ⟨b, o, none⟩) n cap] w fun e w' => e = .returned (.bool R) ∧ Below w.heap.size w w' := by
  obtain ⟨S, hS⟩ : ∃ S, plains l = S := ⟨_, rfl⟩
  have HS : Hid (plains (l.drop 0) = S) := Lib.hid hS
  have HR : Hid (R = (decide (n ≤ 20) && S)) := Lib.hid (by rw [hR, hS])
  have Hn := Lib.hid hn
  have HW := Lib.hid hw
  clear hn hS hR hw
  go_enter Tryd.func43, Tryd.ntmps43
  go_wp2
  go_loopw [3] (fun i wr => ∃ k : Nat, k ≤ n ∧ i = .int .i64 k ∧ Hid (plains (l.drop k) = S) ∧ Below w.heap.size w wr) (fun i _ => n - (intOf i).toNat)
  case atStart => exact ⟨0, by omega, rfl, HS, Below.refl _ _⟩
  case round =>
    obtain ⟨k, hk, rfl, hf, hbr⟩ := hrel
    by_cases hlt : k < n
    · have hlk : k < l.length := by rw [Hn.out]; exact hlt
      have hpa := (hp.below hbr hb) k hlk
      have hwf := HW.out _ (List.getElem_mem hlk)
      have hd : l.drop k = l[k] :: l.drop (k + 1) := List.drop_eq_getElem_cons hlk
      generalize l[k] = p at hpa hwf hd
      have hq := hf.out
      rw [hd] at hq
      have hL := Lib.hid (fun r hr => l02Plain_any p b (o + k * 4) wr hwf hpa r hr)
      clear hp hd hpa hf HS
      cases g : p.plain with
      | true =>
        have hR2 : Hid (plains (l.drop (k + 1)) = S) := Lib.hid (by rw [← hq]; simp [plains, g])
        have G := Lib.hid g
        clear hq g
        go_wp2_with fail
        refine (hL.out true G.out.symm).mono ?_
        rintro e w2 ⟨rfl, hb2⟩
        go_wp2
        exact ⟨⟨k + 1, by omega, by go_num, hR2, kTrans hbr hb2⟩, by simp [intOf]; omega⟩
      | false =>
        obtain rfl : S = false := by rw [← hq]; simp [plains, g]
        obtain rfl : R = false := by rw [HR.out]; simp
        have G := Lib.hid g
        clear hq g
        go_wp2_with fail
        refine (hL.out false G.out.symm).mono ?_
        rintro e w2 ⟨rfl, hb2⟩
        go_wp2
        go_ret
        exact ⟨rfl, kTrans hbr hb2⟩
    · obtain rfl : k = n := by omega
      obtain rfl : S = true := by rw [← hf.out, List.drop_of_length_le (by rw [Hn.out]; omega)]; rfl
      clear hp hf HS
      by_cases h20 : k ≤ 20
      · obtain rfl : R = true := by rw [HR.out]; simp [h20]
        have e1 : decide ((k : Int) ≤ 20) = true := by simp; omega
        have e2 : decide (k ≤ 20) = true := by simpa using h20
        go_wp2
        go_ret
        exact ⟨rfl, hbr⟩
      · obtain rfl : R = false := by rw [HR.out]; simp; omega
        have e1 : decide ((k : Int) ≤ 20) = false := by simp; omega
        have e2 : decide (k ≤ 20) = false := by simpa using h20
        go_wp2
        go_ret
        exact ⟨rfl, hbr⟩
set_option maxHeartbeats 2000000 in
theorem pzChk_nil (a : Option Addr) (cap : Nat) (w : World) :
    Calls Tryd.prog 43 #[.slice a 0 cap] w fun e w' => e = .returned (.bool true) ∧ Below w.heap.size w w' := by
  go_enter Tryd.func43, Tryd.ntmps43
  go_wp2
  go_loopw [3] (fun i wr => i = .int .i64 0 ∧ w = wr) (fun _ _ => 0)
  case atStart => exact ⟨rfl, rfl⟩
  case round =>
    obtain ⟨rfl, rfl⟩ := hrel
    go_wp2
    go_ret
    exact ⟨rfl, Below.refl _ _⟩
theorem pzChk_sl (v : Value) (l : List Pu) (w : World) (hs : SlPu w l v) (h8 : PusWf l) (hmax : l.length ≤ 1048576) (R : Bool) (hR : R = pzOk l) :
    Calls Tryd.prog 43 #[v] w fun e w' => e = .returned (.bool R) ∧ Below w.heap.size w w' := by
  cases hs with
  | empty a cap h => subst h; obtain rfl : R = true := hR; exact pzChk_nil a cap w
  | mk b o cap hc hb hl => exact l02PushesC_any b o _ cap hl l w rfl hc hb h8 hmax R hR
/-- what the model's reading of a line tells -/
structure PzM (s : List UInt8) (p : Pu) (ok : Bool) : Prop where
  wf : p.wf
  yes : ok = true → puIn p → s = puB p
  of : ∀ q, puIn q → s = puB q → ok = true ∧ p = q
def numV (s : List UInt8) : Int := if numOk s = true then (valA 0 s : Int) else 0
theorem numV_ran (s : List UInt8) : 0 ≤ numV s ∧ numV s ≤ 10000000000 := by
  unfold numV
  split
  · have := numOk_lt (by assumption); omega
  · omega
theorem numV_yes {s : List UInt8} (h : numOk s = true) : s = decL (numV s) := by unfold numV; rw [if_pos h]; exact (numOk_dec h).symm
theorem numV_of {s : List UInt8} {v : Int} (h0 : 0 ≤ v) (h1 : v < 10000) (h : s = decL v) : numOk s = true ∧ numV s = v := smV_of h0 h1 h
/-- what stands fast when some lines are read by the model -/
def PzY (Ls : List (List UInt8)) (A : List Pu) (ok : Bool) : Prop := ok = true → Ls.getLastD [] = [] ∧ ∀ (j : Nat) (h : j < A.length), puIn A[j] → Ls[j]? = some (puB A[j])
def PzO (l : List UInt8) (N : Nat) (A : List Pu) (ok : Bool) : Prop := ∀ r, pzOk r = true → puL r = l → ok = true ∧ A = r.take A.length ∧ r.length + 1 = N
theorem pz_ls {l : List UInt8} {Ls : List (List UInt8)} (hs : spl 10 l = Ls) {r : List Pu} (h : puL r = l) : Ls = r.map puB ++ [[]] := by rw [← hs, ← h, puL_spl]
theorem pz_Y0 (Ls : List (List UInt8)) {ok : Bool} (h : ok = true → Ls.getLastD [] = []) : PzY Ls [] ok := fun h1 => ⟨h h1, fun j hj => by simp at hj⟩
theorem pz_O0 {l : List UInt8} {Ls : List (List UInt8)} (hs : spl 10 l = Ls) {ok : Bool} (h : Ls.getLastD [] = [] → ok = true) : PzO l Ls.length [] ok := fun r h1 h2 => by
  have e := pz_ls hs h2
  exact ⟨h (by rw [e]; simp), by simp, by rw [e]; simp⟩
theorem pz_Y {Ls : List (List UInt8)} {A : List Pu} {ln : List UInt8} {p : Pu} {ok : Bool} (h : PzY Ls A true) (hl : Ls[A.length]? = some ln) (hp : PzM ln p ok) : PzY Ls (A ++ [p]) ok := by
  intro ho
  obtain ⟨h1, h2⟩ := h rfl
  refine ⟨h1, fun j hj hk => ?_⟩
  rw [List.length_append] at hj
  simp only [List.length_cons, List.length_nil] at hj
  by_cases e : j < A.length
  · rw [List.getElem_append_left e] at hk ⊢
    exact h2 j e hk
  · obtain rfl : j = A.length := by omega
    rw [List.getElem_append_right (Nat.le_refl _)] at hk ⊢
    simp only [Nat.sub_self, List.getElem_cons_zero] at hk ⊢
    rw [hl, hp.yes ho hk]
theorem pz_O {l : List UInt8} {Ls : List (List UInt8)} {N : Nat} {A : List Pu} {ln : List UInt8} {p : Pu} {ok : Bool} (hs : spl 10 l = Ls) (h : PzO l N A true) (hl : Ls[A.length]? = some ln) (hM : A.length + 1 < N) (hp : PzM ln p ok) : PzO l N (A ++ [p]) ok := by
  intro r h1 h2
  obtain ⟨_, e3, e4⟩ := h r h1 h2
  have f2 := pz_ls hs h2
  have hc : A.length < r.length := by omega
  rw [f2, List.getElem?_append_left (by rw [List.length_map]; exact hc), List.getElem?_map, List.getElem?_eq_getElem hc] at hl
  obtain ⟨g1, g2⟩ := hp.of r[A.length] ((pzOk_in h1).2 _ (List.getElem_mem hc)) (Option.some.inj hl).symm
  refine ⟨g1, ?_, e4⟩
  rw [List.length_append, List.length_cons, List.length_nil, List.take_succ_eq_append_getElem hc, ← e3, g2]
theorem pz_short {l : List UInt8} {Ls : List (List UInt8)} {N : Nat} {A : List Pu} {ln : List UInt8} {ok : Bool} (hs : spl 10 l = Ls) (h : PzO l N A ok) (hl : Ls[A.length]? = some ln) (hM : A.length + 1 < N) (hp : (spl 32 ln).length ≠ 4) : ∀ r, pzOk r = true → puL r ≠ l := by
  intro r h1 h2
  obtain ⟨_, e3, e4⟩ := h r h1 h2
  have f2 := pz_ls hs h2
  have hc : A.length < r.length := by omega
  rw [f2, List.getElem?_append_left (by rw [List.length_map]; exact hc), List.getElem?_map, List.getElem?_eq_getElem hc] at hl
  rw [← Option.some.inj hl, puB_words] at hp
  exact hp rfl
theorem pz_mtext {l : List UInt8} {Ls : List (List UInt8)} {A : List Pu} (hs : spl 10 l = Ls) (hA : A.length + 1 = Ls.length) (h : PzY Ls A true) (hb : pzOk A = true) : puL A = l := by
  obtain ⟨hz, h2⟩ := h rfl
  have e : Ls = A.map puB ++ [[]] := by
    apply List.ext_getElem?
    intro j
    by_cases hj : j < A.length
    · have hk := (pzOk_in hb).2 _ (List.getElem_mem hj)
      rw [h2 j hj hk, List.getElem?_append_left (by rw [List.length_map]; exact hj), List.getElem?_map, List.getElem?_eq_getElem hj]
      rfl
    · by_cases hj2 : j = A.length
      · subst hj2
        rw [List.getElem?_append_right (by rw [List.length_map]; exact Nat.le_refl _), List.length_map, Nat.sub_self]
        have hne : Ls ≠ [] := by intro h; rw [h] at hA; simp at hA
        have h3 : Ls.getLastD [] = Ls.getLast hne := by
          cases Ls with
          | nil => exact absurd rfl hne
          | cons y r => rfl
        rw [h3, List.getLast_eq_getElem] at hz
        have e5 : Ls.length - 1 = A.length := by omega
        rw [List.getElem?_eq_getElem (by omega)]
        simp only [e5] at hz
        rw [hz]; rfl
      · rw [List.getElem?_eq_none (by omega), List.getElem?_eq_none (by rw [List.length_append, List.length_map]; simp; omega)]
  rw [puL_flat]
  exact (lines_back (hs.trans e)).symm
theorem pz_mend {l : List UInt8} {N : Nat} {A : List Pu} {ok : Bool} (h : PzO l N A ok) (hA : A.length + 1 = N) : ∀ r, pzOk r = true → puL r = l → A = r := by
  intro r h1 h2
  obtain ⟨_, e3, e4⟩ := h r h1 h2
  rw [e3]
  exact List.take_of_length_le (by omega)
theorem pz_four {ws : List (List UInt8)} (h : ws.length = 4) : ∃ a0 a1 a2 a3, ws = [a0, a1, a2, a3] := by
  match ws, h with
  | [a0, a1, a2, a3], _ => exact ⟨a0, a1, a2, a3, rfl⟩
def tkM (s : List UInt8) : Int := if numV s < 9999 then numV s else 9999
theorem tkM_ran (s : List UInt8) : 0 ≤ tkM s ∧ tkM s ≤ 9999 := by have := numV_ran s; unfold tkM; split <;> omega
theorem pz_M {s a0 a1 a2 a3 : List UInt8} {k : Int} (hw : spl 32 s = [a0, a1, a2, a3]) (hk : WdQ sideWL 4 a2 k) : PzM s ⟨smX a0, smX a1, k, tkM a3⟩ ((smB a0 && smB a1) && numOk a3) := by
  have q0 := smQ_any a0
  have q1 := smQ_any a1
  have q3 := tkM_ran a3
  have hr := hk.ran
  have b0 := q0.lo; have b1 := q0.hi; have b2 := q1.lo; have b3 := q1.hi
  refine ⟨⟨wfX_i8 (n := smX a0) (by omega), wfX_i8 (n := smX a1) (by omega), wfX_i8 (n := k) (by omega), wfX_i16 (n := tkM a3) (by omega)⟩, fun h h0 => ?_, fun q hq h => ?_⟩
  · simp only [Bool.and_eq_true] at h
    unfold puIn at h0
    simp only at h0
    have e := spl_back hw
    have e3 : tkM a3 = numV a3 := by
      have h9 := h0.2.2.2.2.2.2.2
      unfold tkM at h9 ⊢
      split at h9
      · rw [if_pos (by assumption)]
      · omega
    rw [q0.yes h.1.1, q1.yes h.1.2, hk.yes (by omega), numV_yes h.2, ← e3] at e
    exact e
  · have e := puB_words q
    rw [← h, hw] at e
    simp only [puWs, List.cons.injEq, and_true] at e
    obtain ⟨e0, e1, e2, e3⟩ := e
    unfold puIn at hq
    obtain ⟨c0, d0⟩ := q0.of q.x (by omega) (by omega) e0
    obtain ⟨c1, d1⟩ := q1.of q.y (by omega) (by omega) e1
    have d2 := hk.of side_inj (j := q.side.toNat) (by omega) (by rw [e2]; congr 1; omega)
    obtain ⟨c3, d3⟩ := numV_of (v := q.tick) (by omega) (by omega) e3
    refine ⟨by rw [c0, c1, c3]; rfl, ?_⟩
    have d4 : tkM a3 = q.tick := by unfold tkM; rw [d3, if_pos (by omega)]
    obtain ⟨b0, b1, b2, b3⟩ := q
    simp only at d0 d1 d2 d4 hq
    simp only [Pu.mk.injEq]
    omega
end Go.Proofs.YthngnbaoaeomeaaDoor
