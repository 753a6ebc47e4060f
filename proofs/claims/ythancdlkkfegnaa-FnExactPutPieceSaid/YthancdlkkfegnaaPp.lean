/- PutPiece: the model. -/
import Derived.Test.YthancdlkkfegnaaCp
import Derived.Test.YthancdlkkfegnaaBo
namespace Go.Proofs.Ythancdlkkfegnaa
open Go.ChangeShapes Go.WideShapes Go.ChangeAt Go.RowKit
set_option linter.unusedVariables false

/-- the answer: width, height, pieces, code -/
def putQ (R : Bool) (wd hi : Int) (l : List Pc) (p : Pc) : Int × Int × List Pc × Int :=
  if R = true ∧ p.ok = true then (if 0 ≤ p.x ∧ p.x ≤ wd - 1 ∧ 0 ≤ p.y ∧ p.y ≤ hi - 1 then (if 0 ≤ findFrom p.x p.y l 0 then (0, 0, [], 4) else (if l.length = 200 then (0, 0, [], 3) else (wd, hi, l ++ [p], 0))) else (0, 0, [], 2)) else (0, 0, [], 1)
theorem four_inj {a b c d : Int} {l r : List Pc} {e f : Int} (h : (a, b, l, c) = (d, e, r, f)) : a = d ∧ b = e ∧ l = r ∧ c = f := by
  injection h with h1 h; injection h with h2 h; injection h with h3 h4; exact ⟨h1, h2, h3, h4⟩
theorem putQ_ok {R : Bool} {wd hi : Int} {l : List Pc} {p : Pc} {Wr Hr : Int} {lr : List Pc} {C : Int} (h8 : All8 l) (hp : p.in8) (h : putQ R wd hi l p = (Wr, Hr, lr, C)) (hl : R = true → l.length ≤ 200) : All8 lr ∧ lr.length ≤ 1048576 := by
  have hnil : All8 ([] : List Pc) ∧ ([] : List Pc).length ≤ 1048576 := ⟨fun p h => absurd h (by simp), by simp⟩
  unfold putQ at h
  split at h
  · rename_i hR
    split at h
    · split at h
      · obtain ⟨_, _, rfl, _⟩ := four_inj h; exact hnil
      · split at h
        · obtain ⟨_, _, rfl, _⟩ := four_inj h; exact hnil
        · obtain ⟨_, _, rfl, _⟩ := four_inj h
          have := hl hR.1
          refine ⟨fun q hq => ?_, by simp; omega⟩
          rcases List.mem_append.1 hq with hq | hq
          · exact h8 q hq
          · rw [List.mem_singleton.1 hq]; exact hp
    · obtain ⟨_, _, rfl, _⟩ := four_inj h; exact hnil
  · obtain ⟨_, _, rfl, _⟩ := four_inj h; exact hnil
/-- a board and a code: the board's slice is a new one -/
def BoardPost (W : Int) (H : Int) (l : List Pc) (C : Int) (w : World) (e : Ending) (w' : World) : Prop :=
  ∃ v, e = .returned (.tuple #[.agg #[.int .i8 W, .int .i8 H, v], .int .i64 C]) ∧ SlW w.heap.size w'.heap.size w' l v ∧ Below w.heap.size w w'
theorem owns_below {w w' : World} {base n size : Nat} {e : TypeId} {v : Value} {xs : List Value} (h : w.ownsRow base e size v n xs) (hb : Below w.heap.size w w') : w'.ownsRow base e size v n xs := by
  refine ⟨h.1, ?_⟩
  rcases h.2 with h2 | ⟨g, cap, cur, h1, h2, h3, r⟩
  · exact .inl h2
  · exact .inr ⟨g, cap, cur, h1, h2, (hb.block g (Array.getElem?_eq_some_iff.1 h3).1).trans h3, r⟩
theorem owns_block {w : World} {base n size : Nat} {e : TypeId} {a : Option Addr} {c : Nat} {xs : List Value} (h : w.ownsRow base e size (.slice a n c) n xs) : ∀ k, (Value.slice a n c).ownBlock = some k → base ≤ k ∧ k < w.heap.size := h.lt
theorem flatL_one_end (l : List Pc) (p : Pc) : flatL (l ++ [p]) = flatL l ++ p.cells := by rw [flatL_append]; simp [flatL]
theorem owns_set_far {w : World} {base n size : Nat} {e t : TypeId} {v : Value} {xs : List Value} {B : Nat} {cs : Array Value} {fr : Nat × Nat} (h : w.ownsRow base e size v n xs) (hB : w.heap[B]? = some (.cells cs t fr)) (ht : t ≠ e) (j : Nat) (u : Value) : (w.setCell ⟨B, j, none⟩ u).ownsRow base e size v n xs := by
  refine ⟨h.1, ?_⟩
  rcases h.2 with h2 | ⟨g, cap, cur, h1, h2, h3, r⟩
  · exact .inl h2
  · refine .inr ⟨g, cap, cur, h1, h2, ?_, r⟩
    rw [Below.heap_setCell _ _ _ _ (by intro e1; rw [e1] at h3; rw [h3] at hB; injection hB with hB; injection hB with _ e2 _; exact ht e2.symm)]; exact h3
theorem pc_one (p : Pc) : ∀ u ∈ p.cells, u.oneCell' = true := by
  intro u hu
  simp only [Pc.cells, List.mem_cons, List.not_mem_nil, or_false] at hu
  rcases hu with rfl | rfl | rfl | rfl | rfl <;> rfl
theorem put_bytes {n : Nat} (h : n ≤ 1048576) : (n + 1) * 5 ≤ 140737488355328 := by omega
theorem put_len {n : Nat} (h : n ≤ 1048576) : n + 1 ≤ maxLen := by unfold maxLen; omega

set_option maxRecDepth 100000 in
set_option maxHeartbeats 4000000 in
theorem specPutPiece_any (b o n cap : Nat) (wd hi : Int) (l : List Pc) (p : Pc) (w : World) (hn : l.length = n) (hp : PcsAt w b o l) (hb : b < w.heap.size) (hc : n ≤ cap) (h8 : All8 l) (hp8 : p.in8) (hw8 : i8 wd) (hh8 : i8 hi) (hmax : n ≤ 1048576) (R : Bool) (hR : R = boardOk wd hi l) (Wr Hr : Int) (lr : List Pc) (C : Int) (hQ : putQ R wd hi l p = (Wr, Hr, lr, C)) :
    Calls Try.prog 27 #[.agg #[.int .i8 wd, .int .i8 hi, .slice (some ⟨b, o, none⟩) n cap], .agg #[.int .i8 p.x, .int .i8 p.y, .int .i8 p.kind, .int .i8 p.turn, .int .i8 p.delay]] w (BoardPost Wr Hr lr C w) := by
  have bA : Below (w.alloc (.cells #[.int .i8 wd, .int .i8 hi, .slice (some ⟨b, o, none⟩) n cap] 30)).heap.size (w.alloc (.cells #[.int .i8 wd, .int .i8 hi, .slice (some ⟨b, o, none⟩) n cap] 30)) (((w.alloc (.cells #[.int .i8 wd, .int .i8 hi, .slice (some ⟨b, o, none⟩) n cap] 30)).alloc (.cells #[.int .i8 p.x, .int .i8 p.y, .int .i8 p.kind, .int .i8 p.turn, .int .i8 p.delay] 46)).alloc (.cells #[.int .i8 0, .int .i8 0, .slice none 0 0] 30)) := kAlloc (kAlloc (Below.refl _ _) _) _
  have bP : Below ((w.alloc (.cells #[.int .i8 wd, .int .i8 hi, .slice (some ⟨b, o, none⟩) n cap] 30)).alloc (.cells #[.int .i8 p.x, .int .i8 p.y, .int .i8 p.kind, .int .i8 p.turn, .int .i8 p.delay] 46)).heap.size ((w.alloc (.cells #[.int .i8 wd, .int .i8 hi, .slice (some ⟨b, o, none⟩) n cap] 30)).alloc (.cells #[.int .i8 p.x, .int .i8 p.y, .int .i8 p.kind, .int .i8 p.turn, .int .i8 p.delay] 46)) (((w.alloc (.cells #[.int .i8 wd, .int .i8 hi, .slice (some ⟨b, o, none⟩) n cap] 30)).alloc (.cells #[.int .i8 p.x, .int .i8 p.y, .int .i8 p.kind, .int .i8 p.turn, .int .i8 p.delay] 46)).alloc (.cells #[.int .i8 0, .int .i8 0, .slice none 0 0] 30)) := kAlloc (Below.refl _ _) _
  have bW : Below w.heap.size w (((w.alloc (.cells #[.int .i8 wd, .int .i8 hi, .slice (some ⟨b, o, none⟩) n cap] 30)).alloc (.cells #[.int .i8 p.x, .int .i8 p.y, .int .i8 p.kind, .int .i8 p.turn, .int .i8 p.delay] 46)).alloc (.cells #[.int .i8 0, .int .i8 0, .slice none 0 0] 30)) := by repeat (first | with_reducible exact Below.refl _ _ | (with_reducible refine kSet ?_ ?hB _; case hB => (simp; try omega)) | with_reducible refine kAlloc ?_ _ | with_reducible refine Below.drew ?_ | with_reducible refine kDrewN ?_ _ | with_reducible refine kTrans ?_ (by assumption))
  have qb := (BdAt.box w wd hi (.slice (some ⟨b, o, none⟩) n cap) 30).below bA (by simp)
  have qp : PcAt (((w.alloc (.cells #[.int .i8 wd, .int .i8 hi, .slice (some ⟨b, o, none⟩) n cap] 30)).alloc (.cells #[.int .i8 p.x, .int .i8 p.y, .int .i8 p.kind, .int .i8 p.turn, .int .i8 p.delay] 46)).alloc (.cells #[.int .i8 0, .int .i8 0, .slice none 0 0] 30)) (w.heap.size + 1) 0 p := by
    have := (PcAt.box (w.alloc (.cells #[.int .i8 wd, .int .i8 hi, .slice (some ⟨b, o, none⟩) n cap] 30)) p 46).below bP (by simp)
    simpa only [World.size_alloc] using this
  have rs0 : ∀ (W : World), (W.alloc (.cells #[.int .i8 0, .int .i8 0, .slice none 0 0] 30)).heap[W.heap.size]? = some (.cells #[.int .i8 0, .int .i8 0, .slice none 0 0] 30 (0, 0)) := fun W => heap_alloc_new _ _
  have rs : (((w.alloc (.cells #[.int .i8 wd, .int .i8 hi, .slice (some ⟨b, o, none⟩) n cap] 30)).alloc (.cells #[.int .i8 p.x, .int .i8 p.y, .int .i8 p.kind, .int .i8 p.turn, .int .i8 p.delay] 46)).alloc (.cells #[.int .i8 0, .int .i8 0, .slice none 0 0] 30)).heap[w.heap.size + 1 + 1]? = some (.cells #[.int .i8 0, .int .i8 0, .slice none 0 0] 30 (0, 0)) := by
    have := rs0 ((w.alloc (.cells #[.int .i8 wd, .int .i8 hi, .slice (some ⟨b, o, none⟩) n cap] 30)).alloc (.cells #[.int .i8 p.x, .int .i8 p.y, .int .i8 p.kind, .int .i8 p.turn, .int .i8 p.delay] 46))
    simpa only [World.size_alloc] using this
  have sz : (((w.alloc (.cells #[.int .i8 wd, .int .i8 hi, .slice (some ⟨b, o, none⟩) n cap] 30)).alloc (.cells #[.int .i8 p.x, .int .i8 p.y, .int .i8 p.kind, .int .i8 p.turn, .int .i8 p.delay] 46)).alloc (.cells #[.int .i8 0, .int .i8 0, .slice none 0 0] 30)).heap.size = w.heap.size + 1 + 1 + 1 := by simp
  go_enter Try.func27, Try.ntmps27
  go_wp2_with fail
  generalize hW0 : ((w.alloc (.cells #[.int .i8 wd, .int .i8 hi, .slice (some ⟨b, o, none⟩) n cap] 30)).alloc (.cells #[.int .i8 p.x, .int .i8 p.y, .int .i8 p.kind, .int .i8 p.turn, .int .i8 p.delay] 46)).alloc (.cells #[.int .i8 0, .int .i8 0, .slice none 0 0] 30) = W0 at *
  clear hW0 rs0 bA bP
  have hpW := hp.below bW hb
  have hbW := Nat.lt_of_lt_of_le hb bW.size
  have Hn := Lib.hid hn
  refine (l01Ok_any w.heap.size 0 b o n cap wd hi l _ hn qb hpW hbW hc h8 hw8 hh8 hmax R hR).mono ?_
  rintro e w1 ⟨rfl, hb1⟩
  have T1 := kTrans bW hb1
  have qb1 := qb.below hb1 (by omega)
  have qp1 := qp.below hb1 (by omega)
  have rs1 := (hb1.block (w.heap.size + 1 + 1) (by omega)).trans rs
  have hp1 := hpW.below hb1 hbW
  have hz1 : w.heap.size + 1 + 1 < w1.heap.size := by have := hb1.size; omega
  have hbz1 := Nat.lt_of_lt_of_le hbW hb1.size
  clear qb qp rs hpW hbW bW hb1 hp hn sz hR
  cases R with
  | false =>
    obtain ⟨rfl, rfl, rfl, rfl⟩ := four_inj (hQ.symm.trans (by unfold putQ; rw [if_neg (by simp)]) : (Wr, Hr, lr, C) = (0, 0, [], 1))
    clear hQ h8
    have r0 : w1.cell? ⟨w.heap.size + 1 + 1, 0, none⟩ = some (.int .i8 0) := cell_of_row w1 _ 0 _ _ _ rs1
    have r1 : w1.cell? ⟨w.heap.size + 1 + 1, 1, none⟩ = some (.int .i8 0) := cell_of_row w1 _ 1 _ _ _ rs1
    have r2 : w1.cell? ⟨w.heap.size + 1 + 1, 2, none⟩ = some (.slice none 0 0) := cell_of_row w1 _ 2 _ _ _ rs1
    have rf : ∀ j, w1.frozen? ⟨w.heap.size + 1 + 1, j, none⟩ = false := fun j => frozen_of_row w1 _ j _ _ rs1
    go_wp2
    exact bodyPost_ret (v := .tuple #[.agg #[.int .i8 0, .int .i8 0, .slice none 0 0], .int .i64 1]) (by simp [results, Try.results27, go_sem, r0, r1, r2]) rfl ⟨_, rfl, .empty none 0 rfl, by repeat (first | with_reducible exact Below.refl _ _ | (with_reducible refine kSet ?_ ?hB _; case hB => (simp; try omega)) | with_reducible refine kAlloc ?_ _ | with_reducible refine Below.drew ?_ | with_reducible refine kDrewN ?_ _ | with_reducible refine kTrans ?_ (by assumption))⟩
  | true =>
    cases g1 : p.ok with
    | false =>
      have G1 := Lib.hid g1
      obtain ⟨rfl, rfl, rfl, rfl⟩ := four_inj (hQ.symm.trans (by unfold putQ; rw [if_neg (by simp [g1])]) : (Wr, Hr, lr, C) = (0, 0, [], 1))
      go_wp2_with fail
      refine (l01Piece_any p _ 0 _ hp8 qp1 false g1.symm).mono ?_
      rintro e w2 ⟨rfl, hb2⟩
      have rs2 := (hb2.block (w.heap.size + 1 + 1) hz1).trans rs1
      have hz2 := Nat.lt_of_lt_of_le hz1 hb2.size
      have T2 := kTrans T1 hb2
      clear hQ h8 qp1 qb1 hb2 T1 hz1
      have r0 : w2.cell? ⟨w.heap.size + 1 + 1, 0, none⟩ = some (.int .i8 0) := cell_of_row w2 _ 0 _ _ _ rs2
      have r1 : w2.cell? ⟨w.heap.size + 1 + 1, 1, none⟩ = some (.int .i8 0) := cell_of_row w2 _ 1 _ _ _ rs2
      have r2 : w2.cell? ⟨w.heap.size + 1 + 1, 2, none⟩ = some (.slice none 0 0) := cell_of_row w2 _ 2 _ _ _ rs2
      have rf : ∀ j, w2.frozen? ⟨w.heap.size + 1 + 1, j, none⟩ = false := fun j => frozen_of_row w2 _ j _ _ rs2
      go_wp2
      exact bodyPost_ret (v := .tuple #[.agg #[.int .i8 0, .int .i8 0, .slice none 0 0], .int .i64 1]) (by simp [results, Try.results27, go_sem, r0, r1, r2]) rfl ⟨_, rfl, .empty none 0 rfl, by repeat (first | with_reducible exact Below.refl _ _ | (with_reducible refine kSet ?_ ?hB _; case hB => (simp; try omega)) | with_reducible refine kAlloc ?_ _ | with_reducible refine Below.drew ?_ | with_reducible refine kDrewN ?_ _ | with_reducible refine kTrans ?_ (by assumption))⟩
    | true =>
      go_wp2_with fail
      refine (l01Piece_any p _ 0 _ hp8 qp1 true g1.symm).mono ?_
      rintro e w2 ⟨rfl, hb2⟩
      have rs2 := (hb2.block (w.heap.size + 1 + 1) hz1).trans rs1
      have hz2 := Nat.lt_of_lt_of_le hz1 hb2.size
      have T2 := kTrans T1 hb2
      have qb2 := qb1.below hb2 qb1.lt
      have qp2 := qp1.below hb2 (by omega)
      have hp2 := hp1.below hb2 hbz1
      have hbz2 := Nat.lt_of_lt_of_le hbz1 hb2.size
      obtain ⟨k0, k1, k2⟩ := id qb2
      obtain ⟨a0, a1, a2, a3, a4⟩ := id qp2
      simp only [Nat.zero_add] at k1 k2 a1 a2 a3 a4
      clear hb2 T1 hz1 qb1 qp1 rs1 hp1 hbz1
      have w1e : IntKind.i64.wrap wd = wd := IntWalk.i64_in _ (by unfold i8 at hw8; omega)
      have w2e : IntKind.i64.wrap hi = hi := IntWalk.i64_in _ (by unfold i8 at hh8; omega)
      by_cases g2 : 0 ≤ p.x ∧ p.x ≤ wd - 1 ∧ 0 ≤ p.y ∧ p.y ≤ hi - 1
      · go_wp2_with fail
        refine (l01In_any p.x p.y wd hi _ hp8.1 hp8.2.1 (by unfold i8 at hw8; omega) (by unfold i8 at hh8; omega) true (by simpa using g2)).mono ?_
        rintro e w3 ⟨rfl, hb3⟩
        have rs3 := (hb3.block (w.heap.size + 1 + 1) hz2).trans rs2
        have hz3 := Nat.lt_of_lt_of_le hz2 hb3.size
        have T3 := kTrans T2 hb3
        have qb3 := qb2.below hb3 qb2.lt
        have qp3 := qp2.below hb3 (by omega)
        have hp3 := hp2.below hb3 hbz2
        have hbz3 := Nat.lt_of_lt_of_le hbz2 hb3.size
        clear k0 k1 k2 a0 a1 a2 a3 a4
        obtain ⟨k0, k1, k2⟩ := id qb3
        obtain ⟨a0, a1, a2, a3, a4⟩ := id qp3
        simp only [Nat.zero_add] at k1 k2 a1 a2 a3 a4
        clear hb3 T2 hz2 qb2 qp2 rs2 hp2 hbz2
        obtain ⟨f, hf⟩ : ∃ f, findFrom p.x p.y l 0 = f := ⟨_, rfl⟩
        go_wp2_with fail
        refine (l01Find_to w.heap.size 0 b o n cap wd hi p.x p.y f l _ Hn.out qb3 hp3 hbz3 hc hmax hf).mono ?_
        rintro e w4 ⟨rfl, hb4⟩
        have rs4 := (hb4.block (w.heap.size + 1 + 1) hz3).trans rs3
        have hz4 := Nat.lt_of_lt_of_le hz3 hb4.size
        have T4 := kTrans T3 hb4
        have qb4 := qb3.below hb4 qb3.lt
        have qp4 := qp3.below hb4 (by omega)
        have hp4 := hp3.below hb4 hbz3
        have hbz4 := Nat.lt_of_lt_of_le hbz3 hb4.size
        clear k0 k1 k2 a0 a1 a2 a3 a4
        obtain ⟨k0, k1, k2⟩ := id qb4
        obtain ⟨a0, a1, a2, a3, a4⟩ := id qp4
        simp only [Nat.zero_add] at k1 k2 a1 a2 a3 a4
        clear hb4 T3 hz3 qb3 qp3 rs3 hp3 hbz3
        by_cases g3 : 0 ≤ f
        · obtain ⟨rfl, rfl, rfl, rfl⟩ := four_inj (hQ.symm.trans (by unfold putQ; rw [if_pos ⟨rfl, g1⟩, if_pos g2, if_pos (by rw [hf]; exact g3)]) : (Wr, Hr, lr, C) = (0, 0, [], 4))
          clear hQ h8 qp4 qb4 hp4 hf
          have r0 : w4.cell? ⟨w.heap.size + 1 + 1, 0, none⟩ = some (.int .i8 0) := cell_of_row w4 _ 0 _ _ _ rs4
          have r1 : w4.cell? ⟨w.heap.size + 1 + 1, 1, none⟩ = some (.int .i8 0) := cell_of_row w4 _ 1 _ _ _ rs4
          have r2 : w4.cell? ⟨w.heap.size + 1 + 1, 2, none⟩ = some (.slice none 0 0) := cell_of_row w4 _ 2 _ _ _ rs4
          have rf : ∀ j, w4.frozen? ⟨w.heap.size + 1 + 1, j, none⟩ = false := fun j => frozen_of_row w4 _ j _ _ rs4
          go_wp2
          exact bodyPost_ret (v := .tuple #[.agg #[.int .i8 0, .int .i8 0, .slice none 0 0], .int .i64 4]) (by simp [results, Try.results27, go_sem, r0, r1, r2]) rfl ⟨_, rfl, .empty none 0 rfl, by repeat (first | with_reducible exact Below.refl _ _ | (with_reducible refine kSet ?_ ?hB _; case hB => (simp; try omega)) | with_reducible refine kAlloc ?_ _ | with_reducible refine Below.drew ?_ | with_reducible refine kDrewN ?_ _ | with_reducible refine kTrans ?_ (by assumption))⟩
        · by_cases g4 : n = 200
          · obtain ⟨rfl, rfl, rfl, rfl⟩ := four_inj (hQ.symm.trans (by unfold putQ; rw [if_pos ⟨rfl, g1⟩, if_pos g2, if_neg (by rw [hf]; exact g3), if_pos (by rw [Hn.out]; exact g4)]) : (Wr, Hr, lr, C) = (0, 0, [], 3))
            subst g4
            clear hQ h8 qp4 qb4 hp4 hf
            have r0 : w4.cell? ⟨w.heap.size + 1 + 1, 0, none⟩ = some (.int .i8 0) := cell_of_row w4 _ 0 _ _ _ rs4
            have r1 : w4.cell? ⟨w.heap.size + 1 + 1, 1, none⟩ = some (.int .i8 0) := cell_of_row w4 _ 1 _ _ _ rs4
            have r2 : w4.cell? ⟨w.heap.size + 1 + 1, 2, none⟩ = some (.slice none 0 0) := cell_of_row w4 _ 2 _ _ _ rs4
            have rf : ∀ j, w4.frozen? ⟨w.heap.size + 1 + 1, j, none⟩ = false := fun j => frozen_of_row w4 _ j _ _ rs4
            go_wp2
            exact bodyPost_ret (v := .tuple #[.agg #[.int .i8 0, .int .i8 0, .slice none 0 0], .int .i64 3]) (by simp [results, Try.results27, go_sem, r0, r1, r2]) rfl ⟨_, rfl, .empty none 0 rfl, by repeat (first | with_reducible exact Below.refl _ _ | (with_reducible refine kSet ?_ ?hB _; case hB => (simp; try omega)) | with_reducible refine kAlloc ?_ _ | with_reducible refine Below.drew ?_ | with_reducible refine kDrewN ?_ _ | with_reducible refine kTrans ?_ (by assumption))⟩
          · have e200 : decide ((n : Int) = 200) = false := by simp; omega
            have e200' : ((n : Int) == 200) = false := by simp; omega
            have hQ2 := four_inj (hQ.symm.trans (by unfold putQ; rw [if_pos ⟨rfl, g1⟩, if_pos g2, if_neg (by rw [hf]; exact g3), if_neg (by rw [Hn.out]; exact g4)]) : (Wr, Hr, lr, C) = (wd, hi, l ++ [p], 0))
            obtain ⟨rfl, rfl, hlr, rfl⟩ := hQ2
            have Hlr := Lib.hid hlr
            clear hQ h8 hf hlr
            go_wp2_with fail
            refine (l01Copy_any w.heap.size b o n cap Wr Hr l _ Hn.out qb4 hp4 hbz4 hmax).mono ?_
            rintro e w5 ⟨v5, rfl, hown5, hb5⟩
            obtain ⟨va, vc, rfl⟩ := owns_slice hown5
            have rs5 := (hb5.block (w.heap.size + 1 + 1) hz4).trans rs4
            have hz5 := Nat.lt_of_lt_of_le hz4 hb5.size
            have T5 := kTrans T4 hb5
            have qp5 := qp4.below hb5 (by omega)
            clear k0 k1 k2 a0 a1 a2 a3 a4
            obtain ⟨a0, a1, a2, a3, a4⟩ := id qp5
            simp only [Nat.zero_add] at a1 a2 a3 a4
            have hz5' : w.heap.size + 1 < w5.heap.size := by omega
            have Hown5 := Lib.hid hown5
            have hblk := owns_block hown5
            have h45 := hb5.size
            clear hown5 hb5 qb4 qp4 hp4 T4 rs4
            obtain ⟨i0, hi0, hz0, hzz1, hzz2⟩ := info_parts info_pc
            have Hi := Lib.hid hi0
            have Hz0 := Lib.hid hz0
            have Hz1 := Lib.hid hzz1
            have Hz2 := Lib.hid hzz2
            have Hblk := Lib.hid hblk
            clear hi0 hz0 hzz1 hzz2 hblk
            go_wp2_with (at_builtin; refine wpList_append_own _ rfl _ _ 28 rfl w4.heap.size 46 i0 _ 5 5 Try.underlying28 Hi.out Hz0.out Hz1.out Hz2.out rfl (by decide) (.slice va n vc) n (flatL l) rfl (owns_below Hown5.out (by repeat (first | with_reducible exact Below.refl _ _ | (with_reducible refine kSet ?_ ?hB _; case hB => (simp; try omega)) | with_reducible refine kAlloc ?_ _ | with_reducible refine Below.drew ?_ | with_reducible refine kDrewN ?_ _ | with_reducible refine kTrans ?_ (by assumption)))) ⟨w5.heap.size + 1, 0, none⟩ 1 1 p.cells rfl rfl (World.news_of_block (cs := #[.int .i8 p.x, .int .i8 p.y, .int .i8 p.kind, .int .i8 p.turn, .int .i8 p.delay]) (heap_two _ _ _)) (pc_one p) (put_len hmax) (put_bytes hmax) ?qc6 ?_)
            case qc6 => simp; omega
            intro v6 w6 hown6 hgr hnil
            have hx : w6.heap[w5.heap.size]? = some (.cells #[.int .i8 Wr, .int .i8 Hr, .slice va n vc] 30 (0, 0)) :=
              (hgr.block w5.heap.size (by simp; omega) (by intro e; have := (Hblk.out _ e.symm).2; omega)).trans ((Below.heap_alloc _ _ _ (by simp)).trans (heap_alloc_new _ _))
            have hr : w6.heap[w.heap.size + 1 + 1]? = some (.cells #[.int .i8 0, .int .i8 0, .slice none 0 0] 30 (0, 0)) :=
              (hgr.block (w.heap.size + 1 + 1) (by simp; omega) (by intro e; have := (Hblk.out _ e.symm).1; omega)).trans ((Below.heap_alloc _ _ _ (by simp; omega)).trans ((Below.heap_alloc _ _ _ (by omega)).trans rs5))
            have T6 : Below w.heap.size w w6 := grown_below (v := .slice va n vc) (by repeat (first | with_reducible exact Below.refl _ _ | (with_reducible refine kSet ?_ ?hB _; case hB => (simp; try omega)) | with_reducible refine kAlloc ?_ _ | with_reducible refine Below.drew ?_ | with_reducible refine kDrewN ?_ _ | with_reducible refine kTrans ?_ (by assumption))) hgr (by intro k hk; have := (Hblk.out k hk).1; omega)
            have hs6 : w5.heap.size + 1 + 1 ≤ w6.heap.size := by have := hgr.size; simp at this; omega
            have x0 : w6.cell? ⟨w5.heap.size, 0, none⟩ = some (.int .i8 Wr) := cell_of_row w6 _ 0 _ _ _ hx
            have x1 : w6.cell? ⟨w5.heap.size, 1, none⟩ = some (.int .i8 Hr) := cell_of_row w6 _ 1 _ _ _ hx
            have x2 : w6.cell? ⟨w5.heap.size, 2, none⟩ = some (.slice va n vc) := cell_of_row w6 _ 2 _ _ _ hx
            have xf : ∀ j, w6.frozen? ⟨w5.heap.size, j, none⟩ = false := fun j => frozen_of_row w6 _ j _ _ hx
            have r0 : w6.cell? ⟨w.heap.size + 1 + 1, 0, none⟩ = some (.int .i8 0) := cell_of_row w6 _ 0 _ _ _ hr
            have r1 : w6.cell? ⟨w.heap.size + 1 + 1, 1, none⟩ = some (.int .i8 0) := cell_of_row w6 _ 1 _ _ _ hr
            have r2 : w6.cell? ⟨w.heap.size + 1 + 1, 2, none⟩ = some (.slice none 0 0) := cell_of_row w6 _ 2 _ _ _ hr
            have rf : ∀ j, w6.frozen? ⟨w.heap.size + 1 + 1, j, none⟩ = false := fun j => frozen_of_row w6 _ j _ _ hr
            have Hown6 := Lib.hid (show w6.ownsRow w4.heap.size 46 5 v6 (n + 1) (flatL (l ++ [p])) by rw [flatL_one_end]; exact hown6)
            have Hx := Lib.hid hx
            obtain ⟨vb, vd, rfl⟩ := owns_slice Hown6.out
            have ne1 : ¬ w5.heap.size = w.heap.size + 1 + 1 := by omega
            have ne2 : ¬ w.heap.size + 1 + 1 = w5.heap.size := by omega
            have hz6 : w.heap.size + 1 + 1 < w6.heap.size := by omega
            clear hown6 hgr hnil hx hr rs5 a0 a1 a2 a3 a4 hz5 hz5' qp5
            go_wp2
            exact bodyPost_ret (v := .tuple #[.agg #[.int .i8 Wr, .int .i8 Hr, .slice vb (n + 1) vd], .int .i64 0]) (by simp [results, Try.results27, go_sem, r0, r1, r2]) rfl ⟨_, rfl, by
              rw [Hlr.out]
              exact (SlW.of_owns (ownsRow_setCell_below (ownsRow_setCell_below (ownsRow_setCell_below (owns_set_far Hown6.out Hx.out (by decide) _ _) hz4 _) hz4 _) hz4 _)).mono (by omega) (Nat.le_refl _), by repeat (first | with_reducible exact Below.refl _ _ | (with_reducible refine kSet ?_ ?hB _; case hB => (simp; try omega)) | with_reducible refine kAlloc ?_ _ | with_reducible refine Below.drew ?_ | with_reducible refine kDrewN ?_ _ | with_reducible refine kTrans ?_ (by assumption))⟩
      · obtain ⟨rfl, rfl, rfl, rfl⟩ := four_inj (hQ.symm.trans (by unfold putQ; rw [if_pos ⟨rfl, g1⟩, if_neg g2]) : (Wr, Hr, lr, C) = (0, 0, [], 2))
        go_wp2_with fail
        refine (l01In_any p.x p.y wd hi _ hp8.1 hp8.2.1 (by unfold i8 at hw8; omega) (by unfold i8 at hh8; omega) false (by simpa using g2)).mono ?_
        rintro e w3 ⟨rfl, hb3⟩
        have rs3 := (hb3.block (w.heap.size + 1 + 1) hz2).trans rs2
        have hz3 := Nat.lt_of_lt_of_le hz2 hb3.size
        have T3 := kTrans T2 hb3
        clear hQ h8 qp2 qb2 hb3 T2 hz2 k0 k1 k2 a0 a1 a2 a3 a4 hp2
        have r0 : w3.cell? ⟨w.heap.size + 1 + 1, 0, none⟩ = some (.int .i8 0) := cell_of_row w3 _ 0 _ _ _ rs3
        have r1 : w3.cell? ⟨w.heap.size + 1 + 1, 1, none⟩ = some (.int .i8 0) := cell_of_row w3 _ 1 _ _ _ rs3
        have r2 : w3.cell? ⟨w.heap.size + 1 + 1, 2, none⟩ = some (.slice none 0 0) := cell_of_row w3 _ 2 _ _ _ rs3
        have rf : ∀ j, w3.frozen? ⟨w.heap.size + 1 + 1, j, none⟩ = false := fun j => frozen_of_row w3 _ j _ _ rs3
        go_wp2
        exact bodyPost_ret (v := .tuple #[.agg #[.int .i8 0, .int .i8 0, .slice none 0 0], .int .i64 2]) (by simp [results, Try.results27, go_sem, r0, r1, r2]) rfl ⟨_, rfl, .empty none 0 rfl, by repeat (first | with_reducible exact Below.refl _ _ | (with_reducible refine kSet ?_ ?hB _; case hB => (simp; try omega)) | with_reducible refine kAlloc ?_ _ | with_reducible refine Below.drew ?_ | with_reducible refine kDrewN ?_ _ | with_reducible refine kTrans ?_ (by assumption))⟩
end Go.Proofs.Ythancdlkkfegnaa
