/- ReadKnock..: the model. -/
import Derived.Test.YthngnbaoaeomeaaDoorKr0
import Derived.Deep.DeepCutAuto
namespace Go.Proofs.YthngnbaoaeomeaaDoor
open Go.ChangeShapes Go.WideShapes Go.ChangeAt Go.RowKit Go.Joins Go.Deep
set_option linter.unusedVariables false
set_option linter.unusedSimpArgs false

set_option maxRecDepth 100000 in
set_option maxHeartbeats 4000000 in
theorem l07PlainC_any (b o n cap : Nat) (hcap : n ≤ cap) (l : List Ko) (w : World) (hn : l.length = n) (hp : KosAt w b o l) (hb : b < w.heap.size) (hw : KosWf l) (hmax : n ≤ 1048576) (R : Bool) (hR : R = (decide (n ≤ 60) && kplains l)) :
    Calls Tryd.prog 48 #[.slice (some ⟨b, o, none⟩) n cap, .int .i64 40] w fun e w' => e = .returned (.bool R) ∧ Below w.heap.size w w' := by
  obtain ⟨S, hS⟩ : ∃ S, kplains l = S := ⟨_, rfl⟩
  have HS : Hid (kplains (l.drop 0) = S) := Lib.hid hS
  have HR : Hid (R = (decide (n ≤ 60) && S)) := Lib.hid (by rw [hR, hS])
  have Hn := Lib.hid hn
  have HW := Lib.hid hw
  have HP := Lib.hid (fun W2 (h2 : Below w.heap.size w W2) => hp.below h2 hb)
  clear hn hS hR hw hp
  go_enter Tryd.func48, Tryd.ntmps48
  go_wp2
  go_loopw [5, 6] (fun i pp wr => ∃ (k : Nat) (v : Value), k ≤ n ∧ i = .int .i64 k ∧ pp = v ∧ Hid (kplains (l.drop k) = S) ∧ Hid (Below w.heap.size w wr)) (fun i _ _ => n - (intOf i).toNat)
  case atStart => exact ⟨0, _, by omega, rfl, rfl, HS, Lib.hid (Below.refl _ _)⟩
  case round =>
    clear HS
    obtain ⟨k, v, hk, rfl, rfl, hf, hB⟩ := hrel
    by_cases hlt : k < n
    · have hlk : k < l.length := by rw [Hn.out]; exact hlt
      have hpa := HP.out _ hB.out k hlk
      have hwf := HW.out _ (List.getElem_mem hlk)
      have hq := hf.out
      rw [kplains_step hlk] at hq
      generalize l[k] = p at hpa hwf hq
      obtain ⟨a, c, s⟩ := p
      obtain ⟨x0, x1, x2⟩ := hpa
      have b2 := bounds_i8 hwf.2.2
      simp only at x0 x1 x2 b2
      have ws_ : IntKind.i64.wrap s = s := IntWalk.i64_in _ (by omega)
      have zb := Nat.lt_of_lt_of_le hb hB.out.size
      have HQ := Lib.hid hq
      clear hwf hq hf
      by_cases g1 : 0 ≤ a ∧ a ≤ 40
      · have H1 := Lib.hid (fun W => l00In_any a 0 40 W true (decide_eq_true g1).symm)
        by_cases g2 : 0 ≤ c ∧ c ≤ 39
        · have H2 := Lib.hid (fun W => l00In_any c 0 39 W true (decide_eq_true g2).symm)
          by_cases g3 : 0 ≤ s ∧ s ≤ 3
          · have H3 := Lib.hid (fun W => l01Side_any s W true (decide_eq_true g3).symm)
            have HF : Hid (kplains (l.drop (k + 1)) = S) := Lib.hid (by have h := HQ.out; simpa [Ko.plain, g1, g2, g3] using h)
            clear HQ g1 g2 g3
            go_wp2_with fail
            refine (H1.out _).mono ?_
            rintro e w2 ⟨rfl, h9⟩
            obtain rfl : wr = w2 := h9
            go_wp2_with fail
            refine (H2.out _).mono ?_
            rintro e w2 ⟨rfl, h9⟩
            obtain rfl : wr = w2 := h9
            go_wp2_with fail
            refine (H3.out _).mono ?_
            rintro e w2 ⟨rfl, h9⟩
            obtain rfl : wr = w2 := h9
            go_wp2
            exact ⟨⟨k + 1, _, by omega, by go_num, rfl, HF, hB⟩, by simp [intOf]; omega⟩
          · have H3 := Lib.hid (fun W => l01Side_any s W false (decide_eq_false g3).symm)
            obtain rfl : S = false := by rw [← HQ.out]; simp [Ko.plain]; omega
            obtain rfl : R = false := by rw [HR.out]; simp
            clear HQ g1 g2 g3
            go_wp2_with fail
            refine (H1.out _).mono ?_
            rintro e w2 ⟨rfl, h9⟩
            obtain rfl : wr = w2 := h9
            go_wp2_with fail
            refine (H2.out _).mono ?_
            rintro e w2 ⟨rfl, h9⟩
            obtain rfl : wr = w2 := h9
            go_wp2_with fail
            refine (H3.out _).mono ?_
            rintro e w2 ⟨rfl, h9⟩
            obtain rfl : wr = w2 := h9
            go_wp2
            go_ret
            exact ⟨rfl, hB.out⟩
        · have H2 := Lib.hid (fun W => l00In_any c 0 39 W false (decide_eq_false g2).symm)
          obtain rfl : S = false := by rw [← HQ.out]; simp [Ko.plain]; omega
          obtain rfl : R = false := by rw [HR.out]; simp
          clear HQ g1 g2
          go_wp2_with fail
          refine (H1.out _).mono ?_
          rintro e w2 ⟨rfl, h9⟩
          obtain rfl : wr = w2 := h9
          go_wp2_with fail
          refine (H2.out _).mono ?_
          rintro e w2 ⟨rfl, h9⟩
          obtain rfl : wr = w2 := h9
          go_wp2
          go_ret
          exact ⟨rfl, hB.out⟩
      · have H1 := Lib.hid (fun W => l00In_any a 0 40 W false (decide_eq_false g1).symm)
        obtain rfl : S = false := by rw [← HQ.out]; simp [Ko.plain]; omega
        obtain rfl : R = false := by rw [HR.out]; simp
        clear HQ g1
        go_wp2_with fail
        refine (H1.out _).mono ?_
        rintro e w2 ⟨rfl, h9⟩
        obtain rfl : wr = w2 := h9
        go_wp2
        go_ret
        exact ⟨rfl, hB.out⟩
    · obtain rfl : k = n := by omega
      obtain rfl : S = true := by rw [← hf.out, List.drop_of_length_le (by rw [Hn.out]; omega)]; rfl
      clear hf
      by_cases h20 : k ≤ 60
      · obtain rfl : R = true := by rw [HR.out]; simp [h20]
        have e1 : decide ((k : Int) ≤ 60) = true := by simp; omega
        go_wp2
        go_ret
        exact ⟨rfl, hB.out⟩
      · obtain rfl : R = false := by rw [HR.out]; simp; omega
        have e1 : decide ((k : Int) ≤ 60) = false := by simp; omega
        go_wp2
        go_ret
        exact ⟨rfl, hB.out⟩
set_option maxHeartbeats 2000000 in
theorem krChk_nil (a : Option Addr) (cap : Nat) (w : World) :
    Calls Tryd.prog 48 #[.slice a 0 cap, .int .i64 40] w fun e w' => e = .returned (.bool true) ∧ Below w.heap.size w w' := by
  go_enter Tryd.func48, Tryd.ntmps48
  go_wp2
  go_loopw [5, 6] (fun i pp wr => ∃ v : Value, i = .int .i64 0 ∧ pp = v ∧ w = wr) (fun _ _ _ => 0)
  case atStart => exact ⟨_, rfl, rfl, rfl⟩
  case round =>
    obtain ⟨v, rfl, rfl, rfl⟩ := hrel
    go_wp2
    go_ret
    exact ⟨rfl, Below.refl _ _⟩
theorem krChk_sl (v : Value) (l : List Ko) (w : World) (hs : SlKo w l v) (h8 : KosWf l) (hmax : l.length ≤ 1048576) (R : Bool) (hR : R = krOk l) :
    Calls Tryd.prog 48 #[v, .int .i64 40] w fun e w' => e = .returned (.bool R) ∧ Below w.heap.size w w' := by
  cases hs with
  | empty a cap h => subst h; obtain rfl : R = true := hR; exact krChk_nil a cap w
  | mk b o cap hc hb hl => exact l07PlainC_any b o _ cap hl l w rfl hc hb h8 hmax R hR
/-- what the model's reading of a line tells -/
structure KrM (s : List UInt8) (p : Ko) (ok : Bool) : Prop where
  wf : p.wf
  yes : ok = true → 0 ≤ p.side → s = koB p
  of : ∀ q, koIn q → s = koB q → ok = true ∧ p = q
def numV (s : List UInt8) : Int := if numOk s = true then (valA 0 s : Int) else 0
theorem numV_ran (s : List UInt8) : 0 ≤ numV s ∧ numV s ≤ 10000000000 := by
  unfold numV
  split
  · have := numOk_lt (by assumption); omega
  · omega
theorem numV_yes {s : List UInt8} (h : numOk s = true) : s = decL (numV s) := by unfold numV; rw [if_pos h]; exact (numOk_dec h).symm
theorem numV_of {s : List UInt8} {v : Int} (h0 : 0 ≤ v) (h1 : v < 10000) (h : s = decL v) : numOk s = true ∧ numV s = v := smV_of h0 h1 h
/-- what stands fast when some lines are read by the model -/
def KrY (Ls : List (List UInt8)) (A : List Ko) (ok : Bool) : Prop := ok = true → Ls.getLastD [] = [] ∧ ∀ (j : Nat) (h : j < A.length), 0 ≤ A[j].side → Ls[j]? = some (koB A[j])
def KrO (l : List UInt8) (N : Nat) (A : List Ko) (ok : Bool) : Prop := ∀ r, krOk r = true → koL r = l → ok = true ∧ A = r.take A.length ∧ r.length + 1 = N
theorem kr_ls {l : List UInt8} {Ls : List (List UInt8)} (hs : spl 10 l = Ls) {r : List Ko} (h : koL r = l) : Ls = r.map koB ++ [[]] := by rw [← hs, ← h, koL_spl]
theorem kr_Y0 (Ls : List (List UInt8)) {ok : Bool} (h : ok = true → Ls.getLastD [] = []) : KrY Ls [] ok := fun h1 => ⟨h h1, fun j hj => by simp at hj⟩
theorem kr_O0 {l : List UInt8} {Ls : List (List UInt8)} (hs : spl 10 l = Ls) {ok : Bool} (h : Ls.getLastD [] = [] → ok = true) : KrO l Ls.length [] ok := fun r h1 h2 => by
  have e := kr_ls hs h2
  exact ⟨h (by rw [e]; simp), by simp, by rw [e]; simp⟩
theorem kr_Y {Ls : List (List UInt8)} {A : List Ko} {ln : List UInt8} {p : Ko} {ok : Bool} (h : KrY Ls A true) (hl : Ls[A.length]? = some ln) (hp : KrM ln p ok) : KrY Ls (A ++ [p]) ok := by
  intro ho
  obtain ⟨h1, h2⟩ := h rfl
  refine ⟨h1, fun j hj hk => ?_⟩
  rw [List.length_append] at hj
  simp only [List.length_cons, List.length_nil] at hj
  by_cases e : j < A.length
  · rw [List.getElem_append_left e] at hk ⊢
    exact h2 j e hk
  · obtain rfl : j = A.length := by omega
    rw [List.getElem_append_right (Nat.le_refl _)] at hk ⊢
    simp only [Nat.sub_self, List.getElem_cons_zero] at hk ⊢
    rw [hl, hp.yes ho hk]
theorem kr_O {l : List UInt8} {Ls : List (List UInt8)} {N : Nat} {A : List Ko} {ln : List UInt8} {p : Ko} {ok : Bool} (hs : spl 10 l = Ls) (h : KrO l N A true) (hl : Ls[A.length]? = some ln) (hM : A.length + 1 < N) (hp : KrM ln p ok) : KrO l N (A ++ [p]) ok := by
  intro r h1 h2
  obtain ⟨_, e3, e4⟩ := h r h1 h2
  have f2 := kr_ls hs h2
  have hc : A.length < r.length := by omega
  rw [f2, List.getElem?_append_left (by rw [List.length_map]; exact hc), List.getElem?_map, List.getElem?_eq_getElem hc] at hl
  obtain ⟨g1, g2⟩ := hp.of r[A.length] ((krOk_in h1).2 _ (List.getElem_mem hc)) (Option.some.inj hl).symm
  refine ⟨g1, ?_, e4⟩
  rw [List.length_append, List.length_cons, List.length_nil, List.take_succ_eq_append_getElem hc, ← e3, g2]
theorem kr_short {l : List UInt8} {Ls : List (List UInt8)} {N : Nat} {A : List Ko} {ln : List UInt8} {ok : Bool} (hs : spl 10 l = Ls) (h : KrO l N A ok) (hl : Ls[A.length]? = some ln) (hM : A.length + 1 < N) (hp : (spl 32 ln).length ≠ 3) : ∀ r, krOk r = true → koL r ≠ l := by
  intro r h1 h2
  obtain ⟨_, e3, e4⟩ := h r h1 h2
  have f2 := kr_ls hs h2
  have hc : A.length < r.length := by omega
  rw [f2, List.getElem?_append_left (by rw [List.length_map]; exact hc), List.getElem?_map, List.getElem?_eq_getElem hc] at hl
  rw [← Option.some.inj hl, koB_words] at hp
  exact hp rfl
theorem kr_mtext {l : List UInt8} {Ls : List (List UInt8)} {A : List Ko} (hs : spl 10 l = Ls) (hA : A.length + 1 = Ls.length) (h : KrY Ls A true) (hb : krOk A = true) : koL A = l := by
  obtain ⟨hz, h2⟩ := h rfl
  have e : Ls = A.map koB ++ [[]] := by
    apply List.ext_getElem?
    intro j
    by_cases hj : j < A.length
    · have hk := (krOk_in hb).2 _ (List.getElem_mem hj)
      unfold koIn at hk
      rw [h2 j hj (by omega), List.getElem?_append_left (by rw [List.length_map]; exact hj), List.getElem?_map, List.getElem?_eq_getElem hj]
      rfl
    · by_cases hj2 : j = A.length
      · subst hj2
        rw [List.getElem?_append_right (by rw [List.length_map]; exact Nat.le_refl _), List.length_map, Nat.sub_self]
        have hne : Ls ≠ [] := by intro h; rw [h] at hA; simp at hA
        have h3 : Ls.getLastD [] = Ls.getLast hne := by
          cases Ls with
          | nil => exact absurd rfl hne
          | cons y r => rfl
        rw [h3, List.getLast_eq_getElem] at hz
        have e5 : Ls.length - 1 = A.length := by omega
        rw [List.getElem?_eq_getElem (by omega)]
        simp only [e5] at hz
        rw [hz]; rfl
      · rw [List.getElem?_eq_none (by omega), List.getElem?_eq_none (by rw [List.length_append, List.length_map]; simp; omega)]
  rw [koL_flat]
  exact (lines_back (hs.trans e)).symm
theorem kr_mend {l : List UInt8} {N : Nat} {A : List Ko} {ok : Bool} (h : KrO l N A ok) (hA : A.length + 1 = N) : ∀ r, krOk r = true → koL r = l → A = r := by
  intro r h1 h2
  obtain ⟨_, e3, e4⟩ := h r h1 h2
  rw [e3]
  exact List.take_of_length_le (by omega)
theorem kr_three {ws : List (List UInt8)} (h : ws.length = 3) : ∃ a0 a1 a2, ws = [a0, a1, a2] := by
  match ws, h with
  | [a0, a1, a2], _ => exact ⟨a0, a1, a2, rfl⟩
theorem kr_M {s a0 a1 a2 : List UInt8} {k : Int} (hw : spl 32 s = [a0, a1, a2]) (hk : WdQ sideWL 4 a2 k) : KrM s ⟨numV a0, numV a1, k⟩ (numOk a0 && numOk a1) := by
  have q0 := numV_ran a0
  have q1 := numV_ran a1
  have hr := hk.ran
  refine ⟨⟨wfX_i64 (n := numV a0) (by omega), wfX_i64 (n := numV a1) (by omega), wfX_i8 (n := k) (by omega)⟩, fun h h0 => ?_, fun q hq h => ?_⟩
  · simp only [Bool.and_eq_true] at h
    have e := spl_back hw
    rw [numV_yes h.1, numV_yes h.2, hk.yes h0] at e
    exact e
  · have e := koB_words q
    rw [← h, hw] at e
    simp only [koWs, List.cons.injEq, and_true] at e
    obtain ⟨e0, e1, e2⟩ := e
    unfold koIn at hq
    obtain ⟨c0, d0⟩ := numV_of (v := q.after) (by omega) (by omega) e0
    obtain ⟨c1, d1⟩ := numV_of (v := q.piece) (by omega) (by omega) e1
    have d2 := hk.of side_inj (j := q.side.toNat) (by omega) (by rw [e2]; congr 1; omega)
    refine ⟨by rw [c0, c1]; rfl, ?_⟩
    obtain ⟨b0, b1, b2⟩ := q
    simp only at d0 d1 d2 hq
    simp only [Ko.mk.injEq]
    omega
end Go.Proofs.YthngnbaoaeomeaaDoor
