/- Indices of the falls that are as asked for: the program's closures. -/
import Derived.Test.YtmabcfepkcpcoaaDoorG11
import Derived.Test.YtmabcfepkcpcoaaDoorIn
namespace Go.Proofs.YtmabcfepkcpcoaaDoor
open Go.ChangeShapes Go.WideShapes Go.ChangeAt Go.RowKit Go.Shelf
set_option linter.unusedVariables false
set_option linter.unusedSimpArgs false

/-- the indices, from i on, of what is so -/
def idxs (S : Fl → Bool) : List Fl → Int → List Int
  | [], _ => []
  | f :: l, i => if S f = true then i :: idxs S l (i + 1) else idxs S l (i + 1)
theorem idxs_length (S : Fl → Bool) : ∀ (l : List Fl) (i : Int), (idxs S l i).length ≤ l.length
  | [], _ => Nat.le_refl _
  | f :: l, i => by
    have := idxs_length S l (i + 1)
    unfold idxs
    split <;> simp only [List.length_cons] <;> omega
theorem idxs_range (S : Fl → Bool) : ∀ (l : List Fl) (i : Int), ∀ x ∈ idxs S l i, i ≤ x ∧ x < i + l.length
  | [], _, x, h => by simp [idxs] at h
  | f :: l, i, x, h => by
    unfold idxs at h
    have ih := idxs_range S l (i + 1) x
    simp only [List.length_cons]
    split at h
    · rcases List.mem_cons.1 h with rfl | h
      · omega
      · have := ih h; omega
    · have := ih h; omega
theorem idxs_congr {S T : Fl → Bool} : ∀ {l : List Fl} {i : Int}, (∀ f ∈ l, S f = T f) → idxs S l i = idxs T l i
  | [], _, _ => rfl
  | f :: l, i, h => by
    unfold idxs
    rw [h f (List.mem_cons_self ..), idxs_congr (l := l) (i := i + 1) (fun g hg => h g (List.mem_cons_of_mem _ hg))]
theorem idxs_yes {S : Fl → Bool} {f : Fl} {l : List Fl} {i : Int} (h : S f = true) : idxs S (f :: l) i = i :: idxs S l (i + 1) := by rw [idxs, if_pos h]
theorem idxs_no {S : Fl → Bool} {f : Fl} {l : List Fl} {i : Int} (h : S f = false) : idxs S (f :: l) i = idxs S l (i + 1) := by rw [idxs, if_neg (by rw [h]; decide)]
theorem idxs_wf {S : Fl → Bool} {l : List Fl} (h : l.length ≤ 200) : InsWf (idxs S l 0) ∧ (idxs S l 0).length ≤ 1048576 := by
  refine ⟨fun x hx => ?_, by have := idxs_length S l 0; omega⟩
  have := idxs_range S l 0 x hx
  exact wf64' (by omega)
theorem runs_stay {lb : List Pc} {l : List Pu} {lr : List Fl} {R : Bool} (h : RunsTo R lb l lr) : ∀ f ∈ lr, (f.tick < 0 ↔ f = stay) := by
  intro f hf
  cases R with
  | false => rw [h.1 rfl] at hf; simp at hf
  | true =>
    obtain ⟨h1, h2⟩ := h.2 rfl
    obtain ⟨k, hk, rfl⟩ := List.mem_iff_getElem.1 hf
    have hb := h2 k (show k < lb.length by omega)
    have e : lr.getD k stay = lr[k] := by rw [List.getD_eq_getElem?_getD, List.getElem?_eq_getElem hk]; rfl
    constructor
    · intro ht
      have := (hb.1 (show (lr.getD k stay).tick < 0 by rw [e]; exact ht)).1
      exact e.symm.trans this
    · intro ht; rw [ht]; simp [stay]
def staysB (f : Fl) : Bool := decide (f.tick < 0)
def fallenB (t : Int) (f : Fl) : Bool := decide (0 ≤ f.tick ∧ f.tick ≤ t)
def fallsB (f : Fl) : Bool := decide (0 ≤ f.tick)
theorem info_i64 : (Tryd.prog.info? 2).map (fun i => (i.zero, i.size, i.bytes)) = some (some (.int .i64 0), 1, 8) := by kernel_rfl
theorem nil_owns {w : World} {base : Nat} {e : TypeId} : w.ownsRow base e 1 (.slice none 0 0) 0 (flatIn []) := ⟨by simp [flatIn], .inl ⟨rfl, rfl⟩⟩
set_option maxRecDepth 100000 in
set_option maxHeartbeats 1000000 in
theorem ask_staying (f : Fl) (w : World) (hst : StayAt w) :
    Calls Tryd.prog 67 #[.agg #[.int .i64 f.tick, .int .i8 f.frm, .int .i64 f.who]] w fun e w' => e = .returned (.bool (decide (f = stay))) ∧ Below w.heap.size w w' := by
  have hk : Below w.heap.size w (w.alloc (.cells #[.int .i64 f.tick, .int .i8 f.frm, .int .i64 f.who] 91)) := by repeat (first | with_reducible exact Below.refl _ _ | (with_reducible refine kSet ?_ ?hB _; case hB => (simp; try omega)) | with_reducible refine kAlloc ?_ _ | with_reducible refine Below.drew ?_ | with_reducible refine kDrewN ?_ _ | with_reducible refine kTrans ?_ (by assumption))
  obtain ⟨⟨y0, y1, y2⟩, hz⟩ := hst.below hk
  simp only [stay, Nat.zero_add] at y0 y1 y2
  have he := Fl_eq f stay
  have hgm : Tryd.prog.eqGuardType Tryd.prog.depth 91 = false := by kernel_rfl
  clear hst hk
  by_cases hs : f = stay
  · rw [show decide (f = stay) = true by simpa using hs] at he ⊢
    simp only [stay] at he
    clear hs
    go_enter Tryd.func67, Tryd.ntmps67
    go_wp2
    go_ret
    exact ⟨rfl, by repeat (first | with_reducible exact Below.refl _ _ | (with_reducible refine kSet ?_ ?hB _; case hB => (simp; try omega)) | with_reducible refine kAlloc ?_ _ | with_reducible refine Below.drew ?_ | with_reducible refine kDrewN ?_ _ | with_reducible refine kTrans ?_ (by assumption))⟩
  · rw [show decide (f = stay) = false by simpa using hs] at he ⊢
    simp only [stay] at he
    clear hs
    go_enter Tryd.func67, Tryd.ntmps67
    go_wp2
    go_ret
    exact ⟨rfl, by repeat (first | with_reducible exact Below.refl _ _ | (with_reducible refine kSet ?_ ?hB _; case hB => (simp; try omega)) | with_reducible refine kAlloc ?_ _ | with_reducible refine Below.drew ?_ | with_reducible refine kDrewN ?_ _ | with_reducible refine kTrans ?_ (by assumption))⟩
set_option maxRecDepth 100000 in
set_option maxHeartbeats 1000000 in
theorem ask_falling (f : Fl) (w : World) (hst : StayAt w) :
    Calls Tryd.prog 68 #[.agg #[.int .i64 f.tick, .int .i8 f.frm, .int .i64 f.who]] w fun e w' => e = .returned (.bool (!decide (f = stay))) ∧ Below w.heap.size w w' := by
  have hk : Below w.heap.size w (w.alloc (.cells #[.int .i64 f.tick, .int .i8 f.frm, .int .i64 f.who] 91)) := by repeat (first | with_reducible exact Below.refl _ _ | (with_reducible refine kSet ?_ ?hB _; case hB => (simp; try omega)) | with_reducible refine kAlloc ?_ _ | with_reducible refine Below.drew ?_ | with_reducible refine kDrewN ?_ _ | with_reducible refine kTrans ?_ (by assumption))
  obtain ⟨⟨y0, y1, y2⟩, hz⟩ := hst.below hk
  simp only [stay, Nat.zero_add] at y0 y1 y2
  have he := Fl_eq f stay
  have hgm : Tryd.prog.eqGuardType Tryd.prog.depth 91 = false := by kernel_rfl
  clear hst hk
  by_cases hs : f = stay
  · rw [show decide (f = stay) = true by simpa using hs] at he ⊢
    simp only [stay] at he
    clear hs
    go_enter Tryd.func68, Tryd.ntmps68
    go_wp2
    go_ret
    exact ⟨rfl, by repeat (first | with_reducible exact Below.refl _ _ | (with_reducible refine kSet ?_ ?hB _; case hB => (simp; try omega)) | with_reducible refine kAlloc ?_ _ | with_reducible refine Below.drew ?_ | with_reducible refine kDrewN ?_ _ | with_reducible refine kTrans ?_ (by assumption))⟩
  · rw [show decide (f = stay) = false by simpa using hs] at he ⊢
    simp only [stay] at he
    clear hs
    go_enter Tryd.func68, Tryd.ntmps68
    go_wp2
    go_ret
    exact ⟨rfl, by repeat (first | with_reducible exact Below.refl _ _ | (with_reducible refine kSet ?_ ?hB _; case hB => (simp; try omega)) | with_reducible refine kAlloc ?_ _ | with_reducible refine Below.drew ?_ | with_reducible refine kDrewN ?_ _ | with_reducible refine kTrans ?_ (by assumption))⟩
set_option maxRecDepth 100000 in
set_option maxHeartbeats 1000000 in
theorem ask_fallen (f : Fl) (tb : Nat) (tk : Int) (w : World) (hst : StayAt w) (htk : w.cell? ⟨tb, 0, none⟩ = some (.int .i64 tk)) :
    Calls Tryd.prog 66 #[.agg #[.int .i64 f.tick, .int .i8 f.frm, .int .i64 f.who], .pointer (some ⟨tb, 0, none⟩)] w fun e w' => e = .returned (.bool ((!decide (f = stay) && decide (f.tick ≤ tk)))) ∧ Below w.heap.size w w' := by
  have hk : Below w.heap.size w (w.alloc (.cells #[.int .i64 f.tick, .int .i8 f.frm, .int .i64 f.who] 91)) := by repeat (first | with_reducible exact Below.refl _ _ | (with_reducible refine kSet ?_ ?hB _; case hB => (simp; try omega)) | with_reducible refine kAlloc ?_ _ | with_reducible refine Below.drew ?_ | with_reducible refine kDrewN ?_ _ | with_reducible refine kTrans ?_ (by assumption))
  obtain ⟨⟨y0, y1, y2⟩, hz⟩ := hst.below hk
  simp only [stay, Nat.zero_add] at y0 y1 y2
  have he := Fl_eq f stay
  have hgm : Tryd.prog.eqGuardType Tryd.prog.depth 91 = false := by kernel_rfl
  have htl := World.block_lt_of_cell? w _ htk
  have c0 := (hk.cell (p := ⟨tb, 0, none⟩) htl).trans htk
  clear hst hk htk
  by_cases hs : f = stay
  · rw [show decide (f = stay) = true by simpa using hs] at he ⊢
    simp only [stay] at he
    clear hs
    go_enter Tryd.func66, Tryd.ntmps66
    go_wp2
    go_ret
    exact ⟨rfl, by repeat (first | with_reducible exact Below.refl _ _ | (with_reducible refine kSet ?_ ?hB _; case hB => (simp; try omega)) | with_reducible refine kAlloc ?_ _ | with_reducible refine Below.drew ?_ | with_reducible refine kDrewN ?_ _ | with_reducible refine kTrans ?_ (by assumption))⟩
  · rw [show decide (f = stay) = false by simpa using hs] at he ⊢
    simp only [stay] at he
    clear hs
    go_enter Tryd.func66, Tryd.ntmps66
    go_wp2
    go_ret
    exact ⟨by simp, by repeat (first | with_reducible exact Below.refl _ _ | (with_reducible refine kSet ?_ ?hB _; case hB => (simp; try omega)) | with_reducible refine kAlloc ?_ _ | with_reducible refine Below.drew ?_ | with_reducible refine kDrewN ?_ _ | with_reducible refine kTrans ?_ (by assumption))⟩
set_option maxRecDepth 100000 in
set_option maxHeartbeats 4000000 in
theorem indices_staying_mk (g o n cap : Nat) (lr : List Fl) (w : World) (hn : lr.length = n) (hc : FlsAt w g o lr) (hg : g < w.heap.size) (hle : n ≤ cap) (hmax : n ≤ 200) (hst : StayAt w) (L : List Int) (hL : idxs (fun f => decide (f = stay)) lr 0 = L) :
    Calls Tryd.prog 65 #[.slice (some ⟨g, o, none⟩) n cap, .func (.func 67) #[] #[]] w fun e w' => ∃ v, e = .returned v ∧ SlWIn w.heap.size w'.heap.size w' L v ∧ Below w.heap.size w w' := by
  obtain ⟨i0, hi0, hz0, hzz1, hzz2⟩ := info_parts info_i64
  have Hi := Lib.hid hi0
  have Hz0 := Lib.hid hz0
  have Hz1 := Lib.hid hzz1
  have Hz2 := Lib.hid hzz2
  have Hn := Lib.hid hn
  have HL : Hid (([] : List Int) ++ idxs (fun f => decide (f = stay)) (lr.drop 0) ((0 : Nat) : Int) = L) := Lib.hid (by rw [List.drop_zero]; exact hL)
  have HA := Lib.hid (fun (f : Fl) w2 (h : Below w.heap.size w w2) => ask_staying f  w2 (hst.below h))
  have own0 : Hid (w.ownsRow w.heap.size 2 1 (.slice none 0 0) ([] : List Int).length (flatIn [])) := Lib.hid nil_owns
  clear hn hL hst hi0 hz0 hzz1 hzz2
  go_enter Tryd.func65, Tryd.ntmps65
  go_wp2
  go_loopw [5, 10] (fun out i wr => ∃ (k : Nat) (P : List Int), k ≤ n ∧ i = .int .i64 k ∧ Hid (P ++ idxs (fun f => decide (f = stay)) (lr.drop k) k = L) ∧ P.length ≤ k ∧ Hid (wr.ownsRow w.heap.size 2 1 out P.length (flatIn P)) ∧ Below w.heap.size w wr) (fun _ i _ => n - (intOf i).toNat)
  case atStart => exact ⟨0, [], by omega, rfl, HL, by simp, own0, Below.refl _ _⟩
  case round =>
    obtain ⟨k, P, hk, rfl, hf, hpl, hown, hbr⟩ := hrel
    obtain ⟨va, vc, rfl⟩ := owns_slice hown.out
    have Hblk := Lib.hid (owns_block hown.out)
    by_cases hlt : k < n
    · have hlk : k < lr.length := by rw [Hn.out]; exact hlt
      obtain ⟨f0, f1, f2⟩ := (hc.below hbr hg) k hlk
      have hd : lr.drop k = lr[k] :: lr.drop (k + 1) := List.drop_eq_getElem_cons hlk
      generalize lr[k] = f at f0 f1 f2 hd
      have hq := hf.out
      rw [hd] at hq
      clear hc hf hd HL own0
      go_wp2_with fail
      refine (HA.out f _ (by repeat (first | with_reducible exact Below.refl _ _ | (with_reducible refine kSet ?_ ?hB _; case hB => (simp; try omega)) | with_reducible refine kAlloc ?_ _ | with_reducible refine Below.drew ?_ | with_reducible refine kDrewN ?_ _ | with_reducible refine kTrans ?_ (by assumption)))).mono ?_
      rintro e w0 ⟨rfl, hb0⟩
      have hk0 : Below wr.heap.size wr w0 := by repeat (first | with_reducible exact Below.refl _ _ | (with_reducible refine kSet ?_ ?hB _; case hB => (simp; try omega)) | with_reducible refine kAlloc ?_ _ | with_reducible refine Below.drew ?_ | with_reducible refine kDrewN ?_ _ | with_reducible refine kTrans ?_ (by assumption))
      have hbr0 := kTrans hbr hk0
      have hown0 := Lib.hid (owns_below hown.out hk0)
      have hs0 : wr.heap.size ≤ w0.heap.size := hk0.size
      clear hk0 hown hb0 f0 f1 f2 hbr
      have hbr := hbr0
      have hown := hown0
      clear hbr0 hown0
      cases hS : (decide (f = stay)) with
      | true =>
        have hq2 : Hid ((P ++ [(k : Int)]) ++ idxs (fun f => decide (f = stay)) (lr.drop (k + 1)) ((k + 1 : Nat) : Int) = L) := Lib.hid (by
          rw [← hq, idxs_yes (f := f) hS, List.append_assoc, show ((k + 1 : Nat) : Int) = (k : Int) + 1 by omega]; rfl)
        clear hq hS
        go_wp2_with (at_builtin; refine wpList_append_own _ rfl _ _ 45 rfl w.heap.size 2 i0 _ 1 8 Tryd.underlying45 Hi.out Hz0.out Hz1.out Hz2.out rfl (by decide) (.slice va P.length vc) P.length (flatIn P) rfl (owns_below hown.out (by repeat (first | with_reducible exact Below.refl _ _ | (with_reducible refine kSet ?_ ?hB _; case hB => (simp; try omega)) | with_reducible refine kAlloc ?_ _ | with_reducible refine Below.drew ?_ | with_reducible refine kDrewN ?_ _ | with_reducible refine kTrans ?_ (by assumption)))) ⟨w0.heap.size, 0, none⟩ 1 1 [.int .i64 k] rfl rfl (World.news_of_block (cs := #[.int .i64 k]) (heap_alloc_new _ _)) (by simp [Value.oneCell']) ?qc4 ?qc5 ?qc6 ?_)
        case qc4 => unfold maxLen; omega
        case qc5 => omega
        case qc6 => have := hbr.size; simp; omega
        intro v6 w6 hown6 hgr hnil
        have Hown6 := Lib.hid (show w6.ownsRow w.heap.size 2 1 v6 (P ++ [(k : Int)]).length (flatIn (P ++ [(k : Int)])) by rw [flatIn_end, List.length_append]; exact hown6)
        have T6 : Below w.heap.size w w6 := grown_below (v := .slice va P.length vc) (by repeat (first | with_reducible exact Below.refl _ _ | (with_reducible refine kSet ?_ ?hB _; case hB => (simp; try omega)) | with_reducible refine kAlloc ?_ _ | with_reducible refine Below.drew ?_ | with_reducible refine kDrewN ?_ _ | with_reducible refine kTrans ?_ (by assumption))) hgr (by intro q hq; exact (Hblk.out q hq).1)
        clear hown6 hgr hnil hown
        go_wp2
        exact ⟨⟨k + 1, P ++ [(k : Int)], by omega, by go_num, hq2, by simp; omega, Hown6, T6⟩, by simp [intOf]; omega⟩
      | false =>
        have hq2 : Hid (P ++ idxs (fun f => decide (f = stay)) (lr.drop (k + 1)) ((k + 1 : Nat) : Int) = L) := Lib.hid (by
          rw [← hq, idxs_no (f := f) hS, show ((k + 1 : Nat) : Int) = (k : Int) + 1 by omega])
        clear hq hS
        go_wp2
        exact ⟨⟨k + 1, P, by omega, by go_num, hq2, by omega, hown, hbr⟩, by simp [intOf]; omega⟩
    · have hPL : P = L := by have := hf.out; rw [List.drop_of_length_le (by rw [Hn.out]; omega)] at this; simpa [idxs] using this
      subst hPL
      have Hs := Lib.hid (SlWIn.of_owns hown.out)
      clear hf hown HL own0 hc
      go_wp2
      go_ret
      exact ⟨_, rfl, Hs.out, hbr⟩
theorem indices_staying (v : Value) (lr : List Fl) (lo hi : Nat) (w : World) (hs : SlWFl lo hi w lr v) (hmax : lr.length ≤ 200) (hst : StayAt w) (L : List Int) (hL : idxs (fun f => decide (f = stay)) lr 0 = L) :
    Calls Tryd.prog 65 #[v, .func (.func 67) #[] #[]] w fun e w' => ∃ v, e = .returned v ∧ SlWIn w.heap.size w'.heap.size w' L v ∧ Below w.heap.size w w' := by
  cases hs with
  | mk g o c hc h1 h2 hg hf hle => exact indices_staying_mk g o _ c lr  w rfl hc hg hle hmax hst L hL
  | empty a c h =>
    subst h
    obtain rfl : L = [] := hL.symm
    clear hst hL
    go_enter Tryd.func65, Tryd.ntmps65
    go_wp2
    refine wp_loop_rounds 1 ?_
    rw [rounds_succ]
    go_wp2
    go_ret
    exact ⟨_, rfl, .empty _ _ rfl, Below.refl _ _⟩
set_option maxRecDepth 100000 in
set_option maxHeartbeats 4000000 in
theorem indices_falling_mk (g o n cap : Nat) (lr : List Fl) (w : World) (hn : lr.length = n) (hc : FlsAt w g o lr) (hg : g < w.heap.size) (hle : n ≤ cap) (hmax : n ≤ 200) (hst : StayAt w) (L : List Int) (hL : idxs (fun f => !decide (f = stay)) lr 0 = L) :
    Calls Tryd.prog 65 #[.slice (some ⟨g, o, none⟩) n cap, .func (.func 68) #[] #[]] w fun e w' => ∃ v, e = .returned v ∧ SlWIn w.heap.size w'.heap.size w' L v ∧ Below w.heap.size w w' := by
  obtain ⟨i0, hi0, hz0, hzz1, hzz2⟩ := info_parts info_i64
  have Hi := Lib.hid hi0
  have Hz0 := Lib.hid hz0
  have Hz1 := Lib.hid hzz1
  have Hz2 := Lib.hid hzz2
  have Hn := Lib.hid hn
  have HL : Hid (([] : List Int) ++ idxs (fun f => !decide (f = stay)) (lr.drop 0) ((0 : Nat) : Int) = L) := Lib.hid (by rw [List.drop_zero]; exact hL)
  have HA := Lib.hid (fun (f : Fl) w2 (h : Below w.heap.size w w2) => ask_falling f  w2 (hst.below h))
  have own0 : Hid (w.ownsRow w.heap.size 2 1 (.slice none 0 0) ([] : List Int).length (flatIn [])) := Lib.hid nil_owns
  clear hn hL hst hi0 hz0 hzz1 hzz2
  go_enter Tryd.func65, Tryd.ntmps65
  go_wp2
  go_loopw [5, 10] (fun out i wr => ∃ (k : Nat) (P : List Int), k ≤ n ∧ i = .int .i64 k ∧ Hid (P ++ idxs (fun f => !decide (f = stay)) (lr.drop k) k = L) ∧ P.length ≤ k ∧ Hid (wr.ownsRow w.heap.size 2 1 out P.length (flatIn P)) ∧ Below w.heap.size w wr) (fun _ i _ => n - (intOf i).toNat)
  case atStart => exact ⟨0, [], by omega, rfl, HL, by simp, own0, Below.refl _ _⟩
  case round =>
    obtain ⟨k, P, hk, rfl, hf, hpl, hown, hbr⟩ := hrel
    obtain ⟨va, vc, rfl⟩ := owns_slice hown.out
    have Hblk := Lib.hid (owns_block hown.out)
    by_cases hlt : k < n
    · have hlk : k < lr.length := by rw [Hn.out]; exact hlt
      obtain ⟨f0, f1, f2⟩ := (hc.below hbr hg) k hlk
      have hd : lr.drop k = lr[k] :: lr.drop (k + 1) := List.drop_eq_getElem_cons hlk
      generalize lr[k] = f at f0 f1 f2 hd
      have hq := hf.out
      rw [hd] at hq
      clear hc hf hd HL own0
      go_wp2_with fail
      refine (HA.out f _ (by repeat (first | with_reducible exact Below.refl _ _ | (with_reducible refine kSet ?_ ?hB _; case hB => (simp; try omega)) | with_reducible refine kAlloc ?_ _ | with_reducible refine Below.drew ?_ | with_reducible refine kDrewN ?_ _ | with_reducible refine kTrans ?_ (by assumption)))).mono ?_
      rintro e w0 ⟨rfl, hb0⟩
      have hk0 : Below wr.heap.size wr w0 := by repeat (first | with_reducible exact Below.refl _ _ | (with_reducible refine kSet ?_ ?hB _; case hB => (simp; try omega)) | with_reducible refine kAlloc ?_ _ | with_reducible refine Below.drew ?_ | with_reducible refine kDrewN ?_ _ | with_reducible refine kTrans ?_ (by assumption))
      have hbr0 := kTrans hbr hk0
      have hown0 := Lib.hid (owns_below hown.out hk0)
      have hs0 : wr.heap.size ≤ w0.heap.size := hk0.size
      clear hk0 hown hb0 f0 f1 f2 hbr
      have hbr := hbr0
      have hown := hown0
      clear hbr0 hown0
      cases hS : (!decide (f = stay)) with
      | true =>
        have hq2 : Hid ((P ++ [(k : Int)]) ++ idxs (fun f => !decide (f = stay)) (lr.drop (k + 1)) ((k + 1 : Nat) : Int) = L) := Lib.hid (by
          rw [← hq, idxs_yes (f := f) hS, List.append_assoc, show ((k + 1 : Nat) : Int) = (k : Int) + 1 by omega]; rfl)
        clear hq hS
        go_wp2_with (at_builtin; refine wpList_append_own _ rfl _ _ 45 rfl w.heap.size 2 i0 _ 1 8 Tryd.underlying45 Hi.out Hz0.out Hz1.out Hz2.out rfl (by decide) (.slice va P.length vc) P.length (flatIn P) rfl (owns_below hown.out (by repeat (first | with_reducible exact Below.refl _ _ | (with_reducible refine kSet ?_ ?hB _; case hB => (simp; try omega)) | with_reducible refine kAlloc ?_ _ | with_reducible refine Below.drew ?_ | with_reducible refine kDrewN ?_ _ | with_reducible refine kTrans ?_ (by assumption)))) ⟨w0.heap.size, 0, none⟩ 1 1 [.int .i64 k] rfl rfl (World.news_of_block (cs := #[.int .i64 k]) (heap_alloc_new _ _)) (by simp [Value.oneCell']) ?qc4 ?qc5 ?qc6 ?_)
        case qc4 => unfold maxLen; omega
        case qc5 => omega
        case qc6 => have := hbr.size; simp; omega
        intro v6 w6 hown6 hgr hnil
        have Hown6 := Lib.hid (show w6.ownsRow w.heap.size 2 1 v6 (P ++ [(k : Int)]).length (flatIn (P ++ [(k : Int)])) by rw [flatIn_end, List.length_append]; exact hown6)
        have T6 : Below w.heap.size w w6 := grown_below (v := .slice va P.length vc) (by repeat (first | with_reducible exact Below.refl _ _ | (with_reducible refine kSet ?_ ?hB _; case hB => (simp; try omega)) | with_reducible refine kAlloc ?_ _ | with_reducible refine Below.drew ?_ | with_reducible refine kDrewN ?_ _ | with_reducible refine kTrans ?_ (by assumption))) hgr (by intro q hq; exact (Hblk.out q hq).1)
        clear hown6 hgr hnil hown
        go_wp2
        exact ⟨⟨k + 1, P ++ [(k : Int)], by omega, by go_num, hq2, by simp; omega, Hown6, T6⟩, by simp [intOf]; omega⟩
      | false =>
        have hq2 : Hid (P ++ idxs (fun f => !decide (f = stay)) (lr.drop (k + 1)) ((k + 1 : Nat) : Int) = L) := Lib.hid (by
          rw [← hq, idxs_no (f := f) hS, show ((k + 1 : Nat) : Int) = (k : Int) + 1 by omega])
        clear hq hS
        go_wp2
        exact ⟨⟨k + 1, P, by omega, by go_num, hq2, by omega, hown, hbr⟩, by simp [intOf]; omega⟩
    · have hPL : P = L := by have := hf.out; rw [List.drop_of_length_le (by rw [Hn.out]; omega)] at this; simpa [idxs] using this
      subst hPL
      have Hs := Lib.hid (SlWIn.of_owns hown.out)
      clear hf hown HL own0 hc
      go_wp2
      go_ret
      exact ⟨_, rfl, Hs.out, hbr⟩
theorem indices_falling (v : Value) (lr : List Fl) (lo hi : Nat) (w : World) (hs : SlWFl lo hi w lr v) (hmax : lr.length ≤ 200) (hst : StayAt w) (L : List Int) (hL : idxs (fun f => !decide (f = stay)) lr 0 = L) :
    Calls Tryd.prog 65 #[v, .func (.func 68) #[] #[]] w fun e w' => ∃ v, e = .returned v ∧ SlWIn w.heap.size w'.heap.size w' L v ∧ Below w.heap.size w w' := by
  cases hs with
  | mk g o c hc h1 h2 hg hf hle => exact indices_falling_mk g o _ c lr  w rfl hc hg hle hmax hst L hL
  | empty a c h =>
    subst h
    obtain rfl : L = [] := hL.symm
    clear hst hL
    go_enter Tryd.func65, Tryd.ntmps65
    go_wp2
    refine wp_loop_rounds 1 ?_
    rw [rounds_succ]
    go_wp2
    go_ret
    exact ⟨_, rfl, .empty _ _ rfl, Below.refl _ _⟩
set_option maxRecDepth 100000 in
set_option maxHeartbeats 4000000 in
theorem indices_fallen_mk (g o n cap : Nat) (lr : List Fl) (tb : Nat) (tk : Int) (w : World) (hn : lr.length = n) (hc : FlsAt w g o lr) (hg : g < w.heap.size) (hle : n ≤ cap) (hmax : n ≤ 200) (hst : StayAt w) (htk : w.cell? ⟨tb, 0, none⟩ = some (.int .i64 tk)) (L : List Int) (hL : idxs (fun f => (!decide (f = stay) && decide (f.tick ≤ tk))) lr 0 = L) :
    Calls Tryd.prog 65 #[.slice (some ⟨g, o, none⟩) n cap, .func (.func 66) #[] #[.pointer (some ⟨tb, 0, none⟩)]] w fun e w' => ∃ v, e = .returned v ∧ SlWIn w.heap.size w'.heap.size w' L v ∧ Below w.heap.size w w' := by
  obtain ⟨i0, hi0, hz0, hzz1, hzz2⟩ := info_parts info_i64
  have Hi := Lib.hid hi0
  have Hz0 := Lib.hid hz0
  have Hz1 := Lib.hid hzz1
  have Hz2 := Lib.hid hzz2
  have Hn := Lib.hid hn
  have HL : Hid (([] : List Int) ++ idxs (fun f => (!decide (f = stay) && decide (f.tick ≤ tk))) (lr.drop 0) ((0 : Nat) : Int) = L) := Lib.hid (by rw [List.drop_zero]; exact hL)
  have HA := Lib.hid (fun (f : Fl) w2 (h : Below w.heap.size w w2) => ask_fallen f tb tk w2 (hst.below h) ((h.cell (p := ⟨tb, 0, none⟩) (World.block_lt_of_cell? w _ htk)).trans htk))
  have own0 : Hid (w.ownsRow w.heap.size 2 1 (.slice none 0 0) ([] : List Int).length (flatIn [])) := Lib.hid nil_owns
  clear hn hL hst hi0 hz0 hzz1 hzz2 htk
  go_enter Tryd.func65, Tryd.ntmps65
  go_wp2
  go_loopw [5, 10] (fun out i wr => ∃ (k : Nat) (P : List Int), k ≤ n ∧ i = .int .i64 k ∧ Hid (P ++ idxs (fun f => (!decide (f = stay) && decide (f.tick ≤ tk))) (lr.drop k) k = L) ∧ P.length ≤ k ∧ Hid (wr.ownsRow w.heap.size 2 1 out P.length (flatIn P)) ∧ Below w.heap.size w wr) (fun _ i _ => n - (intOf i).toNat)
  case atStart => exact ⟨0, [], by omega, rfl, HL, by simp, own0, Below.refl _ _⟩
  case round =>
    obtain ⟨k, P, hk, rfl, hf, hpl, hown, hbr⟩ := hrel
    obtain ⟨va, vc, rfl⟩ := owns_slice hown.out
    have Hblk := Lib.hid (owns_block hown.out)
    by_cases hlt : k < n
    · have hlk : k < lr.length := by rw [Hn.out]; exact hlt
      obtain ⟨f0, f1, f2⟩ := (hc.below hbr hg) k hlk
      have hd : lr.drop k = lr[k] :: lr.drop (k + 1) := List.drop_eq_getElem_cons hlk
      generalize lr[k] = f at f0 f1 f2 hd
      have hq := hf.out
      rw [hd] at hq
      clear hc hf hd HL own0
      go_wp2_with fail
      refine (HA.out f _ (by repeat (first | with_reducible exact Below.refl _ _ | (with_reducible refine kSet ?_ ?hB _; case hB => (simp; try omega)) | with_reducible refine kAlloc ?_ _ | with_reducible refine Below.drew ?_ | with_reducible refine kDrewN ?_ _ | with_reducible refine kTrans ?_ (by assumption)))).mono ?_
      rintro e w0 ⟨rfl, hb0⟩
      have hk0 : Below wr.heap.size wr w0 := by repeat (first | with_reducible exact Below.refl _ _ | (with_reducible refine kSet ?_ ?hB _; case hB => (simp; try omega)) | with_reducible refine kAlloc ?_ _ | with_reducible refine Below.drew ?_ | with_reducible refine kDrewN ?_ _ | with_reducible refine kTrans ?_ (by assumption))
      have hbr0 := kTrans hbr hk0
      have hown0 := Lib.hid (owns_below hown.out hk0)
      have hs0 : wr.heap.size ≤ w0.heap.size := hk0.size
      clear hk0 hown hb0 f0 f1 f2 hbr
      have hbr := hbr0
      have hown := hown0
      clear hbr0 hown0
      cases hS : ((!decide (f = stay) && decide (f.tick ≤ tk))) with
      | true =>
        have hq2 : Hid ((P ++ [(k : Int)]) ++ idxs (fun f => (!decide (f = stay) && decide (f.tick ≤ tk))) (lr.drop (k + 1)) ((k + 1 : Nat) : Int) = L) := Lib.hid (by
          rw [← hq, idxs_yes (f := f) hS, List.append_assoc, show ((k + 1 : Nat) : Int) = (k : Int) + 1 by omega]; rfl)
        clear hq hS
        go_wp2_with (at_builtin; refine wpList_append_own _ rfl _ _ 45 rfl w.heap.size 2 i0 _ 1 8 Tryd.underlying45 Hi.out Hz0.out Hz1.out Hz2.out rfl (by decide) (.slice va P.length vc) P.length (flatIn P) rfl (owns_below hown.out (by repeat (first | with_reducible exact Below.refl _ _ | (with_reducible refine kSet ?_ ?hB _; case hB => (simp; try omega)) | with_reducible refine kAlloc ?_ _ | with_reducible refine Below.drew ?_ | with_reducible refine kDrewN ?_ _ | with_reducible refine kTrans ?_ (by assumption)))) ⟨w0.heap.size, 0, none⟩ 1 1 [.int .i64 k] rfl rfl (World.news_of_block (cs := #[.int .i64 k]) (heap_alloc_new _ _)) (by simp [Value.oneCell']) ?qc4 ?qc5 ?qc6 ?_)
        case qc4 => unfold maxLen; omega
        case qc5 => omega
        case qc6 => have := hbr.size; simp; omega
        intro v6 w6 hown6 hgr hnil
        have Hown6 := Lib.hid (show w6.ownsRow w.heap.size 2 1 v6 (P ++ [(k : Int)]).length (flatIn (P ++ [(k : Int)])) by rw [flatIn_end, List.length_append]; exact hown6)
        have T6 : Below w.heap.size w w6 := grown_below (v := .slice va P.length vc) (by repeat (first | with_reducible exact Below.refl _ _ | (with_reducible refine kSet ?_ ?hB _; case hB => (simp; try omega)) | with_reducible refine kAlloc ?_ _ | with_reducible refine Below.drew ?_ | with_reducible refine kDrewN ?_ _ | with_reducible refine kTrans ?_ (by assumption))) hgr (by intro q hq; exact (Hblk.out q hq).1)
        clear hown6 hgr hnil hown
        go_wp2
        exact ⟨⟨k + 1, P ++ [(k : Int)], by omega, by go_num, hq2, by simp; omega, Hown6, T6⟩, by simp [intOf]; omega⟩
      | false =>
        have hq2 : Hid (P ++ idxs (fun f => (!decide (f = stay) && decide (f.tick ≤ tk))) (lr.drop (k + 1)) ((k + 1 : Nat) : Int) = L) := Lib.hid (by
          rw [← hq, idxs_no (f := f) hS, show ((k + 1 : Nat) : Int) = (k : Int) + 1 by omega])
        clear hq hS
        go_wp2
        exact ⟨⟨k + 1, P, by omega, by go_num, hq2, by omega, hown, hbr⟩, by simp [intOf]; omega⟩
    · have hPL : P = L := by have := hf.out; rw [List.drop_of_length_le (by rw [Hn.out]; omega)] at this; simpa [idxs] using this
      subst hPL
      have Hs := Lib.hid (SlWIn.of_owns hown.out)
      clear hf hown HL own0 hc
      go_wp2
      go_ret
      exact ⟨_, rfl, Hs.out, hbr⟩
theorem indices_fallen (v : Value) (lr : List Fl) (tb : Nat) (tk : Int) (lo hi : Nat) (w : World) (hs : SlWFl lo hi w lr v) (hmax : lr.length ≤ 200) (hst : StayAt w) (htk : w.cell? ⟨tb, 0, none⟩ = some (.int .i64 tk)) (L : List Int) (hL : idxs (fun f => (!decide (f = stay) && decide (f.tick ≤ tk))) lr 0 = L) :
    Calls Tryd.prog 65 #[v, .func (.func 66) #[] #[.pointer (some ⟨tb, 0, none⟩)]] w fun e w' => ∃ v, e = .returned v ∧ SlWIn w.heap.size w'.heap.size w' L v ∧ Below w.heap.size w w' := by
  cases hs with
  | mk g o c hc h1 h2 hg hf hle => exact indices_fallen_mk g o _ c lr tb tk w rfl hc hg hle hmax hst htk L hL
  | empty a c h =>
    subst h
    obtain rfl : L = [] := hL.symm
    clear hst hL
    go_enter Tryd.func65, Tryd.ntmps65
    go_wp2
    refine wp_loop_rounds 1 ?_
    rw [rounds_succ]
    go_wp2
    go_ret
    exact ⟨_, rfl, .empty _ _ rfl, Below.refl _ _⟩
end Go.Proofs.YtmabcfepkcpcoaaDoor
