/- KnocksText: lists; the checks of a knock. -/
import Derived.Test.YthngnbaoaeomeaaDoorTx2
import Derived.Test.YthngnbaoaeomeaaDoorTw
import Derived.Test.YthngnbaoaeomeaaDoorKok
namespace Go.Proofs.YthngnbaoaeomeaaDoor
open Go.ChangeShapes Go.WideShapes Go.ChangeAt Go.RowKit Go.Joins Go.Deep
set_option linter.unusedVariables false
set_option linter.unusedSimpArgs false

def Ko.plain (p : Ko) : Bool := decide (0 ≤ p.after ∧ p.after ≤ 40 ∧ 0 ≤ p.piece ∧ p.piece ≤ 39 ∧ 0 ≤ p.side ∧ p.side ≤ 3)
def kplains : List Ko → Bool
  | [] => true
  | p :: l => p.plain && kplains l
def koWs (p : Ko) : List (List UInt8) := [decL p.after, decL p.piece, sideWL p.side]
def koLine (p : Ko) : List UInt8 := lineL (koWs p)
def koL (r : List Ko) : List UInt8 := r.flatMap koLine
def ktQ (R : Bool) (l : List Ko) : List UInt8 := if R = true then koL l else []
def koIn (p : Ko) : Prop := 0 ≤ p.after ∧ p.after ≤ 40 ∧ 0 ≤ p.piece ∧ p.piece ≤ 39 ∧ 0 ≤ p.side ∧ p.side ≤ 3
theorem koIn_of {p : Ko} (h : p.plain = true) : koIn p := by
  have h2 := of_decide_eq_true h
  unfold koIn
  exact h2
theorem koLine_len {p : Ko} (h : koIn p) : (koLine p).length ≤ 19 := by
  unfold koIn at h
  refine lineL_len (m := 5) (ws := koWs p) (fun x hx => ?_)
  simp only [koWs, List.mem_cons, List.not_mem_nil, or_false] at hx
  rcases hx with rfl | rfl | rfl
  · have := decL_len2 (n := p.after) (by omega); omega
  · have := decL_len2 (n := p.piece) (by omega); omega
  · exact sideWL_len _
theorem koL_len : ∀ (r : List Ko), (∀ p ∈ r, koIn p) → (koL r).length ≤ r.length * 19
  | [], _ => by simp [koL]
  | p :: r, h => by
    have h1 := koL_len r (fun q hq => h q (List.mem_cons_of_mem _ hq))
    have h2 := koLine_len (h p (List.mem_cons_self ..))
    unfold koL at h1 ⊢
    rw [List.flatMap_cons, List.length_append, List.length_cons]
    omega
theorem koL_succ {l : List Ko} {k : Nat} (h : k < l.length) : koL (l.take (k + 1)) = koL (l.take k) ++ koLine l[k] := by
  unfold koL
  rw [List.take_succ_eq_append_getElem h, List.flatMap_append]
  simp
theorem kplains_step {l : List Ko} {k : Nat} (h : k < l.length) : kplains (l.drop k) = (l[k].plain && kplains (l.drop (k + 1))) := by
  rw [List.drop_eq_getElem_cons h]; rfl
theorem kplains_mem : ∀ {l : List Ko}, kplains l = true → ∀ p ∈ l, p.plain = true
  | q :: l, h, p, hp => by
    simp only [kplains, Bool.and_eq_true] at h
    rcases List.mem_cons.1 hp with rfl | hp
    · exact h.1
    · exact kplains_mem h.2 p hp
set_option maxHeartbeats 4000000 in
theorem isWritten_any (p : Ko) (hw : p.wf) (w : World) (r : Bool) (hr : r = p.plain) :
    Calls Tryd.prog 79 #[.agg #[.int .i64 p.after, .int .i64 p.piece, .int .i8 p.side]] w fun e w' => e = .returned (.bool r) ∧ Below w.heap.size w w' := by
  obtain ⟨a, c, s⟩ := p
  have b0 := bounds_i64 hw.1
  have b1 := bounds_i64 hw.2.1
  have b2 := bounds_i8 hw.2.2
  simp only at b0 b1 b2
  clear hw
  have ws_ : IntKind.i64.wrap s = s := IntWalk.i64_in _ (by omega)
  obtain ⟨W0, hW⟩ : ∃ z, w.alloc (.cells #[.int .i64 a, .int .i64 c, .int .i8 s] 82) = z := ⟨_, rfl⟩
  have HK := Lib.hid (show Below w.heap.size w W0 by rw [← hW]; exact kAlloc (Below.refl _ _) _)
  have bX : W0.heap[w.heap.size]? = some (.cells #[.int .i64 a, .int .i64 c, .int .i8 s] 82 (0, 0)) := by rw [← hW]; exact nNewX _ _
  have lX := blk_lt bX
  have q0 : W0.cell? ⟨w.heap.size, 0, none⟩ = some (.int .i64 a) := cell_of_row _ _ 0 _ _ _ bX
  have q1 : W0.cell? ⟨w.heap.size, 1, none⟩ = some (.int .i64 c) := cell_of_row _ _ 1 _ _ _ bX
  have q2 : W0.cell? ⟨w.heap.size, 2, none⟩ = some (.int .i8 s) := cell_of_row _ _ 2 _ _ _ bX
  have HW := Lib.hid hW
  clear hW bX
  by_cases h0 : 0 ≤ a
  · skip
    by_cases h1 : a ≤ 40
    · skip
      by_cases h2 : 0 ≤ c
      · skip
        by_cases h3 : c < 40
        · skip
          obtain ⟨r2, hr2⟩ : ∃ r2, r2 = decide (0 ≤ s ∧ s ≤ 3) := ⟨_, rfl⟩
          obtain rfl : r = r2 := by
            rw [hr, hr2]
            exact (show decide (0 ≤ a ∧ a ≤ 40 ∧ 0 ≤ c ∧ c ≤ 39 ∧ 0 ≤ s ∧ s ≤ 3) = decide (0 ≤ s ∧ s ≤ 3) from decide_eq_decide.2 (by constructor <;> intro h <;> omega))
          have HI := Lib.hid (fun W => isSide_any s W r hr2)
          clear hr hr2
          go_enter Tryd.func79, Tryd.ntmps79
          go_upto_region 1 with fail
          try rw [HW.out]
          go_wp2_with fail
          refine (HI.out _).mono ?_
          rintro e w1 ⟨rfl, h9⟩
          obtain rfl : W0 = w1 := h9
          go_wp2
          go_ret
          exact ⟨rfl, HK.out⟩
        · skip
          obtain rfl : r = false := by rw [hr]; simp [Ko.plain]; omega
          have e3 : decide (c < 40) = false := by simp; omega
          clear hr h3
          go_enter Tryd.func79, Tryd.ntmps79
          go_upto_region 1 with fail
          try rw [HW.out]
          go_wp2
          go_ret
          exact ⟨rfl, HK.out⟩
      · skip
        obtain rfl : r = false := by rw [hr]; simp [Ko.plain]; omega
        have e2 : decide (0 ≤ c) = false := by simp; omega
        clear hr h2
        go_enter Tryd.func79, Tryd.ntmps79
        go_upto_region 1 with fail
        try rw [HW.out]
        go_wp2
        go_ret
        exact ⟨rfl, HK.out⟩
    · skip
      obtain rfl : r = false := by rw [hr]; simp [Ko.plain]; omega
      have e1 : decide (a ≤ 40) = false := by simp; omega
      clear hr h1
      go_enter Tryd.func79, Tryd.ntmps79
      go_upto_region 1 with fail
      try rw [HW.out]
      go_wp2
      go_ret
      exact ⟨rfl, HK.out⟩
  · skip
    obtain rfl : r = false := by rw [hr]; simp [Ko.plain]; omega
    have e0 : decide (0 ≤ a) = false := by simp; omega
    clear hr h0
    go_enter Tryd.func79, Tryd.ntmps79
    go_upto_region 1 with fail
    try rw [HW.out]
    go_wp2
    go_ret
    exact ⟨rfl, HK.out⟩
set_option maxRecDepth 100000 in
set_option maxHeartbeats 4000000 in
theorem l07Plain_any (b n : Nat) (l : List Ko) (w : World) (hn : l.length = n) (hp : KosAt w b 0 l) (hb : b < w.heap.size) (hw : KosWf l) (hmax : n ≤ 1048576) (R : Bool) (hR : R = (decide (n ≤ 60) && kplains l)) :
    Calls Tryd.prog 48 #[.slice (some ⟨b, 0, none⟩) n n, .int .i64 40] w fun e w' => e = .returned (.bool R) ∧ Below w.heap.size w w' := by
  obtain ⟨S, hS⟩ : ∃ S, kplains l = S := ⟨_, rfl⟩
  have HS : Hid (kplains (l.drop 0) = S) := Lib.hid hS
  have HR : Hid (R = (decide (n ≤ 60) && S)) := Lib.hid (by rw [hR, hS])
  have Hn := Lib.hid hn
  have HW := Lib.hid hw
  have HP := Lib.hid (fun W2 (h2 : Below w.heap.size w W2) => hp.below h2 hb)
  clear hn hS hR hw hp
  go_enter Tryd.func48, Tryd.ntmps48
  go_wp2
  go_loopw [5, 6] (fun i pp wr => ∃ (k : Nat) (v : Value), k ≤ n ∧ i = .int .i64 k ∧ pp = v ∧ Hid (kplains (l.drop k) = S) ∧ Hid (Below w.heap.size w wr)) (fun i _ _ => n - (intOf i).toNat)
  case atStart => exact ⟨0, _, by omega, rfl, rfl, HS, Lib.hid (Below.refl _ _)⟩
  case round =>
    clear HS
    obtain ⟨k, v, hk, rfl, rfl, hf, hB⟩ := hrel
    by_cases hlt : k < n
    · have hlk : k < l.length := by rw [Hn.out]; exact hlt
      have hpa := HP.out _ hB.out k hlk
      have hwf := HW.out _ (List.getElem_mem hlk)
      have hq := hf.out
      rw [kplains_step hlk] at hq
      generalize l[k] = p at hpa hwf hq
      obtain ⟨a, c, s⟩ := p
      obtain ⟨x0, x1, x2⟩ := hpa
      have b2 := bounds_i8 hwf.2.2
      simp only [Nat.zero_add] at x0 x1 x2 b2
      have ws_ : IntKind.i64.wrap s = s := IntWalk.i64_in _ (by omega)
      have zb := Nat.lt_of_lt_of_le hb hB.out.size
      have HQ := Lib.hid hq
      clear hwf hq hf
      by_cases g1 : 0 ≤ a ∧ a ≤ 40
      · have H1 := Lib.hid (fun W => l00In_any a 0 40 W true (decide_eq_true g1).symm)
        by_cases g2 : 0 ≤ c ∧ c ≤ 39
        · have H2 := Lib.hid (fun W => l00In_any c 0 39 W true (decide_eq_true g2).symm)
          by_cases g3 : 0 ≤ s ∧ s ≤ 3
          · have H3 := Lib.hid (fun W => l01Side_any s W true (decide_eq_true g3).symm)
            have HF : Hid (kplains (l.drop (k + 1)) = S) := Lib.hid (by have h := HQ.out; simpa [Ko.plain, g1, g2, g3] using h)
            clear HQ g1 g2 g3
            go_wp2_with fail
            refine (H1.out _).mono ?_
            rintro e w2 ⟨rfl, h9⟩
            obtain rfl : wr = w2 := h9
            go_wp2_with fail
            refine (H2.out _).mono ?_
            rintro e w2 ⟨rfl, h9⟩
            obtain rfl : wr = w2 := h9
            go_wp2_with fail
            refine (H3.out _).mono ?_
            rintro e w2 ⟨rfl, h9⟩
            obtain rfl : wr = w2 := h9
            go_wp2
            exact ⟨⟨k + 1, _, by omega, by go_num, rfl, HF, hB⟩, by simp [intOf]; omega⟩
          · have H3 := Lib.hid (fun W => l01Side_any s W false (decide_eq_false g3).symm)
            obtain rfl : S = false := by rw [← HQ.out]; simp [Ko.plain]; omega
            obtain rfl : R = false := by rw [HR.out]; simp
            clear HQ g1 g2 g3
            go_wp2_with fail
            refine (H1.out _).mono ?_
            rintro e w2 ⟨rfl, h9⟩
            obtain rfl : wr = w2 := h9
            go_wp2_with fail
            refine (H2.out _).mono ?_
            rintro e w2 ⟨rfl, h9⟩
            obtain rfl : wr = w2 := h9
            go_wp2_with fail
            refine (H3.out _).mono ?_
            rintro e w2 ⟨rfl, h9⟩
            obtain rfl : wr = w2 := h9
            go_wp2
            go_ret
            exact ⟨rfl, hB.out⟩
        · have H2 := Lib.hid (fun W => l00In_any c 0 39 W false (decide_eq_false g2).symm)
          obtain rfl : S = false := by rw [← HQ.out]; simp [Ko.plain]; omega
          obtain rfl : R = false := by rw [HR.out]; simp
          clear HQ g1 g2
          go_wp2_with fail
          refine (H1.out _).mono ?_
          rintro e w2 ⟨rfl, h9⟩
          obtain rfl : wr = w2 := h9
          go_wp2_with fail
          refine (H2.out _).mono ?_
          rintro e w2 ⟨rfl, h9⟩
          obtain rfl : wr = w2 := h9
          go_wp2
          go_ret
          exact ⟨rfl, hB.out⟩
      · have H1 := Lib.hid (fun W => l00In_any a 0 40 W false (decide_eq_false g1).symm)
        obtain rfl : S = false := by rw [← HQ.out]; simp [Ko.plain]; omega
        obtain rfl : R = false := by rw [HR.out]; simp
        clear HQ g1
        go_wp2_with fail
        refine (H1.out _).mono ?_
        rintro e w2 ⟨rfl, h9⟩
        obtain rfl : wr = w2 := h9
        go_wp2
        go_ret
        exact ⟨rfl, hB.out⟩
    · obtain rfl : k = n := by omega
      obtain rfl : S = true := by rw [← hf.out, List.drop_of_length_le (by rw [Hn.out]; omega)]; rfl
      clear hf
      by_cases h20 : k ≤ 60
      · obtain rfl : R = true := by rw [HR.out]; simp [h20]
        have e1 : decide ((k : Int) ≤ 60) = true := by simp; omega
        go_wp2
        go_ret
        exact ⟨rfl, hB.out⟩
      · obtain rfl : R = false := by rw [HR.out]; simp; omega
        have e1 : decide ((k : Int) ≤ 60) = false := by simp; omega
        go_wp2
        go_ret
        exact ⟨rfl, hB.out⟩
end Go.Proofs.YthngnbaoaeomeaaDoor
