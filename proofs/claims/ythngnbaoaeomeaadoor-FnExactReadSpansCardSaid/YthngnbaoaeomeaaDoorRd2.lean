/- Reading texts: the model's calls. -/
import Derived.Test.YthngnbaoaeomeaaDoorRd1
namespace Go.Proofs.YthngnbaoaeomeaaDoor
open Go.ChangeShapes Go.WideShapes Go.ChangeAt Go.RowKit Go.Joins Go.Deep
set_option linter.unusedVariables false
set_option linter.unusedSimpArgs false

theorem u_str : Tryd.prog.underlying 9 = some .string := by kernel_rfl
theorem idx_run {l : List UInt8} {k : Nat} {ch : UInt8} (h : l[k]? = some ch) (W : World) : (Instr.index 9 (.string (bsT l)) (.int .i64 (k : Int))).run Tryd.prog W = .ok (.int .u8 (ch.toNat : Int)) W := by
  have hk : k < l.length := by
    by_cases hk : k < l.length
    · exact hk
    · rw [List.getElem?_eq_none (by omega)] at h; cases h
  have hz : k < (bsT l).size := by rw [bsT_size]; exact hk
  have e : (bsT l)[k]'hz = ch := by
    have h1 : some ((bsT l)[k]'hz) = some ch := by
      rw [← h]
      show some ((bsT l).data[k]'hz) = l[k]?
      rw [List.getElem?_eq_getElem hk]
      simp [bsT]
    exact Option.some.inj h1
  rw [run_index_string W 9 (bsT l) .i64 (k : Int) u_str, dif_pos ⟨by omega, by omega⟩]
  simp only [Int.toNat_natCast, e]
theorem ext_bsT (l : List UInt8) (a b : Nat) : (bsT l).extract a b = bsT ((l.drop a).take (b - a)) := by
  apply ByteArray.ext
  apply Array.ext'
  rw [Lib.extract_data, bsT_list, bsT_list]
theorem sl_run {l : List UInt8} {a b : Nat} (hab : a ≤ b) (hb : b ≤ l.length) (W : World) : (Instr.slice 9 (.string (bsT l)) (some (.int .i64 (a : Int))) (some (.int .i64 (b : Int))) none).run Tryd.prog W = .ok (.string (bsT ((l.drop a).take (b - a)))) W := by
  have hz := bsT_size l
  rw [run_slice_string W 9 (bsT l) .i64 .i64 _ _ u_str (by omega) (by omega) (by omega)]
  simp only [Int.toNat_natCast, ext_bsT]
theorem sl_from {l : List UInt8} {a : Nat} (hb : a ≤ l.length) (W : World) : (Instr.slice 9 (.string (bsT l)) (some (.int .i64 (a : Int))) none none).run Tryd.prog W = .ok (.string (bsT (l.drop a))) W := by
  have hz := bsT_size l
  rw [run_slice_string_from_if (W) 9 (bsT l) .i64 _ u_str, if_pos ⟨by omega, by omega⟩]
  simp only [Int.toNat_natCast, ext_bsT]
  rw [hz, List.take_of_length_le (by rw [List.length_drop]; omega)]
theorem drop_split {l : List UInt8} {a k : Nat} {ch : UInt8} (ha : a ≤ k) (h : l[k]? = some ch) : l.drop a = (l.drop a).take (k - a) ++ ch :: l.drop (k + 1) := by
  have hk : k < l.length := by
    by_cases hk : k < l.length
    · exact hk
    · rw [List.getElem?_eq_none (by omega)] at h; cases h
  have e : l[k] = ch := by rw [List.getElem?_eq_getElem hk] at h; exact Option.some.inj h
  have h1 : l.drop k = ch :: l.drop (k + 1) := by rw [List.drop_eq_getElem_cons hk, e]
  conv => lhs; rw [← List.take_append_drop (k - a) (l.drop a)]
  rw [List.drop_drop, show a + (k - a) = k by omega, h1]
theorem take_next {l : List UInt8} {a k : Nat} {ch : UInt8} (ha : a ≤ k) (h : l[k]? = some ch) : (l.drop a).take (k + 1 - a) = (l.drop a).take (k - a) ++ [ch] := by
  rw [show k + 1 - a = (k - a) + 1 by omega, List.take_add_one, List.getElem?_drop, show a + (k - a) = k by omega, h]
  rfl
/-- what l01Split leaves -/
def SpP (ws : List (List UInt8)) (w : World) (e : Ending) (w' : World) : Prop :=
  ∃ g cap, e = .returned (.slice (some ⟨g, 0, none⟩) ws.length cap) ∧ ws.length ≤ cap ∧ StAt w' g 0 ws ∧ g < w'.heap.size ∧ w.heap.size ≤ g ∧ Below w.heap.size w w'
set_option maxRecDepth 100000 in
set_option maxHeartbeats 4000000 in
theorem l01Split_any (l : List UInt8) (c : UInt8) (w : World) (hs : l.length ≤ 2000000) (cn : Int) (hcn : cn = (c.toNat : Int)) :
    Calls Tryd.prog 27 #[.string (bsT l), .int .u8 cn] w (SpP (spl c l) w) := by
  obtain ⟨i0, hj0, hj1, hj2, hj3⟩ := info_parts info_str
  have Hi := Lib.hid hj0
  have Hz0 := Lib.hid hj1
  have Hz1 := Lib.hid hj2
  have Hz2 := Lib.hid hj3
  clear hj0 hj1 hj2 hj3
  obtain ⟨S, hS⟩ : ∃ S, bsT l = S := ⟨_, rfl⟩
  obtain ⟨n, hn⟩ : ∃ n, S.size = n := ⟨_, rfl⟩
  have hnl : l.length = n := by rw [← hn, ← hS, bsT_size]
  have HIX := Lib.hid (fun (k : Nat) ch (h : l[k]? = some ch) => (by have h1 := fun W => idx_run h W; rw [hS] at h1; exact h1 : ∀ W, (Instr.index 9 (.string S) (.int .i64 (k : Int))).run Tryd.prog W = .ok (.int .u8 (ch.toNat : Int)) W))
  have HSL := Lib.hid (fun (a b : Nat) (h1 : a ≤ b) (h2 : b ≤ n) => (by have h3 := fun W => sl_run (l := l) h1 (by omega) W; rw [hS] at h3; exact h3 : ∀ W, (Instr.slice 9 (.string S) (some (.int .i64 (a : Int))) (some (.int .i64 (b : Int))) none).run Tryd.prog W = .ok (.string (bsT ((l.drop a).take (b - a)))) W))
  have HSF := Lib.hid (fun (a : Nat) (h1 : a ≤ n) => (by have h3 := fun W => sl_from (l := l) (a := a) (by omega) W; rw [hS] at h3; exact h3 : ∀ W, (Instr.slice 9 (.string S) (some (.int .i64 (a : Int))) none none).run Tryd.prog W = .ok (.string (bsT (l.drop a))) W))
  have Hn := Lib.hid hn
  have Hnl := Lib.hid hnl
  have HCN := Lib.hid hcn
  have HSP := Lib.hid (show ([] : List (List UInt8)) ++ spl c (l.drop 0) = spl c l by rw [List.drop_zero]; rfl)
  have HNC := Lib.hid (show c ∉ (l.drop 0).take (0 - 0) by simp)
  have own0 : Hid ((w.alloc (.cells #[] 9)).ownsRow w.heap.size 9 1 (.slice (some ⟨w.heap.size, 0, none⟩) ([] : List (List UInt8)).length 0) ([] : List (List UInt8)).length (strV [])) := Lib.hid (owns_new (Nat.le_refl _) (heap_alloc_new _ _))
  have HB0 := Lib.hid (show Below w.heap.size w (w.alloc (.cells #[] 9)) from kAlloc (Below.refl _ _) _)
  have hn9 : n ≤ 2000000 := by omega
  rw [hS]
  clear hS hn hnl hcn hs
  go_enter Tryd.func27, Tryd.ntmps27
  go_wp2
  go_loopw [5, 6, 7] (fun vo vb vi wr => ∃ (k bg : Nat) (P : List (List UInt8)) (va : Option Addr) (vc : Nat), k ≤ n ∧ bg ≤ k ∧ P.length ≤ bg ∧ vo = .slice va P.length vc ∧ vb = .int .i64 bg ∧ vi = .int .i64 k ∧ Hid (P ++ spl c (l.drop bg) = spl c l) ∧ Hid (c ∉ (l.drop bg).take (k - bg)) ∧ Hid (wr.ownsRow w.heap.size 9 1 (.slice va P.length vc) P.length (strV P)) ∧ Hid (Below w.heap.size w wr)) (fun _ _ vi _ => n - (intOf vi).toNat)
  case atStart => exact ⟨0, 0, [], some ⟨w.heap.size, 0, none⟩, 0, by omega, by omega, by simp, rfl, rfl, rfl, HSP, HNC, own0, HB0⟩
  case round =>
    clear HSP HNC own0 HB0
    obtain ⟨k, bg, P, va, vc, hk, hbk, hPl, rfl, rfl, rfl, HSP, HNC, hown, HB⟩ := hrel
    have Hblk := Lib.hid (owns_block hown.out)
    have hnS : S.size = n := Hn.out
    by_cases hlt : k < n
    · have hkl : k < l.length := by rw [Hnl.out]; exact hlt
      obtain ⟨ch, hch⟩ : ∃ ch, l[k]? = some ch := ⟨_, List.getElem?_eq_getElem hkl⟩
      have hix := HIX.out k ch hch
      have hltS : k < S.size := by omega
      by_cases hc : ch = c
      · subst hc
        have hsl := HSL.out bg k hbk (by omega)
        have HSP2 := Lib.hid (show (P ++ [(l.drop bg).take (k - bg)]) ++ spl ch (l.drop (k + 1)) = spl ch l by
          have hd := drop_split hbk hch
          rw [← HSP.out]
          conv => rhs; rw [hd, spl_app _ HNC.out]
          simp)
        have HNC2 := Lib.hid (show ch ∉ (l.drop (k + 1)).take (k + 1 - (k + 1)) by simp)
        have e1 : (((ch.toNat : Nat) : Int) == cn) = true := by rw [HCN.out]; exact beq_self_eq_true _
        have e2 : ((ch.toNat : Nat) : Int) = cn := HCN.out.symm
        obtain ⟨x, hx⟩ : ∃ x, (l.drop bg).take (k - bg) = x := ⟨_, rfl⟩
        rw [hx] at hsl HSP2
        obtain ⟨X, hX⟩ : ∃ X, bsT x = X := ⟨_, rfl⟩
        rw [hX] at hsl
        have HXX := Lib.hid hX
        obtain ⟨cb, hcb⟩ : ∃ cb : Int, ((ch.toNat : Nat) : Int) = cb := ⟨_, rfl⟩
        rw [hcb] at hix e1 e2
        have wk : IntKind.i64.wrap ((k : Int) + 1) = (k : Int) + 1 := IntWalk.i64_in _ (by omega)
        clear hch hx hX hcb HSP HNC
        go_wp2_with (at_builtin; refine wpList_append_own _ rfl _ _ 47 rfl w.heap.size 9 i0 _ 1 16 Tryd.underlying47 Hi.out Hz0.out Hz1.out Hz2.out rfl (by decide) (.slice va P.length vc) P.length (strV P) rfl (owns_below hown.out (by repeat (first | with_reducible exact Below.refl _ _ | (with_reducible refine kSet ?_ ?hB _; case hB => (simp; try omega)) | with_reducible refine kAlloc ?_ _ | with_reducible refine Below.drew ?_ | with_reducible refine kDrewN ?_ _ | with_reducible refine kTrans ?_ (by assumption)))) ⟨wr.heap.size, 0, none⟩ 1 1 [.string X] rfl rfl (World.news_of_block (cs := #[.string X]) (heap_alloc_new _ _)) (by simp [Value.oneCell']) ?qc4 ?qc5 ?qc6 ?_)
        case qc4 => unfold maxLen; omega
        case qc5 => omega
        case qc6 => have := HB.out.size; simp; omega
        intro v6 w6 hown6 hgr hnil
        have Hown6 := Lib.hid (show w6.ownsRow w.heap.size 9 1 v6 (P ++ [x]).length (strV (P ++ [x])) by rw [strV_end, List.length_append, HXX.out]; exact hown6)
        have T6 : Below w.heap.size w w6 := grown_below (v := .slice va P.length vc) (kTrans HB.out (by repeat (first | with_reducible exact Below.refl _ _ | (with_reducible refine kSet ?_ ?hB _; case hB => (simp; try omega)) | with_reducible refine kAlloc ?_ _ | with_reducible refine Below.drew ?_ | with_reducible refine kDrewN ?_ _ | with_reducible refine kTrans ?_ (by assumption)))) hgr (by intro q hq; exact (Hblk.out q hq).1)
        have HT6 := Lib.hid T6
        obtain ⟨va6, vc6, rfl⟩ := owns_slice Hown6.out
        clear hown6 hgr hnil hown T6
        go_wp2
        exact ⟨⟨k + 1, k + 1, P ++ [x], va6, vc6, by omega, by omega, by simp; omega, rfl, by go_num, by go_num, HSP2, HNC2, Hown6, HT6⟩, by simp [intOf]; omega⟩
      · have HNC2 := Lib.hid (show c ∉ (l.drop bg).take (k + 1 - bg) by
          rw [take_next hbk hch]
          intro h
          rcases List.mem_append.1 h with h | h
          · exact HNC.out h
          · exact hc (List.mem_singleton.1 h).symm)
        have e2 : ¬ ((ch.toNat : Nat) : Int) = cn := by
          rw [HCN.out]; intro h
          exact hc (UInt8.toNat.inj (by omega))
        have e1 : (((ch.toNat : Nat) : Int) == cn) = false := beq_eq_false_iff_ne.2 e2
        obtain ⟨cb, hcb⟩ : ∃ cb : Int, ((ch.toNat : Nat) : Int) = cb := ⟨_, rfl⟩
        rw [hcb] at hix e1 e2
        clear hch hcb HNC
        go_wp2
        exact ⟨⟨k + 1, bg, P, va, vc, by omega, by omega, hPl, rfl, rfl, by go_num, HSP, HNC2, hown, HB⟩, by simp [intOf]; omega⟩
    · obtain rfl : k = n := by omega
      have hsf := HSF.out bg hbk
      have HSP2 := Lib.hid (show P ++ [l.drop bg] = spl c l by
        rw [← HSP.out, spl_word]
        have h := HNC.out
        rwa [List.take_of_length_le (by rw [List.length_drop, Hnl.out]; exact Nat.le_refl _)] at h)
      obtain ⟨x, hx⟩ : ∃ x, l.drop bg = x := ⟨_, rfl⟩
      rw [hx] at hsf HSP2
      obtain ⟨X, hX⟩ : ∃ X, bsT x = X := ⟨_, rfl⟩
      rw [hX] at hsf
      have HXX := Lib.hid hX
      clear hx hX HSP HNC
      go_wp2_with (at_builtin; refine wpList_append_own _ rfl _ _ 47 rfl w.heap.size 9 i0 _ 1 16 Tryd.underlying47 Hi.out Hz0.out Hz1.out Hz2.out rfl (by decide) (.slice va P.length vc) P.length (strV P) rfl (owns_below hown.out (by repeat (first | with_reducible exact Below.refl _ _ | (with_reducible refine kSet ?_ ?hB _; case hB => (simp; try omega)) | with_reducible refine kAlloc ?_ _ | with_reducible refine Below.drew ?_ | with_reducible refine kDrewN ?_ _ | with_reducible refine kTrans ?_ (by assumption)))) ⟨wr.heap.size, 0, none⟩ 1 1 [.string X] rfl rfl (World.news_of_block (cs := #[.string X]) (heap_alloc_new _ _)) (by simp [Value.oneCell']) ?qc4 ?qc5 ?qc6 ?_)
      case qc4 => unfold maxLen; omega
      case qc5 => omega
      case qc6 => have := HB.out.size; simp; omega
      intro v6 w6 hown6 hgr hnil
      have Hown6 := Lib.hid (show w6.ownsRow w.heap.size 9 1 v6 (P ++ [x]).length (strV (P ++ [x])) by rw [strV_end, List.length_append, HXX.out]; exact hown6)
      have T6 : Below w.heap.size w w6 := grown_below (v := .slice va P.length vc) (kTrans HB.out (by repeat (first | with_reducible exact Below.refl _ _ | (with_reducible refine kSet ?_ ?hB _; case hB => (simp; try omega)) | with_reducible refine kAlloc ?_ _ | with_reducible refine Below.drew ?_ | with_reducible refine kDrewN ?_ _ | with_reducible refine kTrans ?_ (by assumption)))) hgr (by intro q hq; exact (Hblk.out q hq).1)
      have HT6 := Lib.hid T6
      have HP := Lib.hid (show SpP (P ++ [x]) w (.returned v6) w6 by
        obtain ⟨g, cap, rfl, h1, h2, h3⟩ := own_str Hown6.out (by simp)
        have hb2 := (Hown6.out.lt g rfl).1
        exact ⟨g, cap, rfl, h1, fun j y hy => by rw [Nat.zero_add]; have h4 := h3 j y hy; rwa [Nat.zero_add] at h4, h2, hb2, T6⟩)
      clear hown6 hgr hnil hown T6
      go_wp2
      go_ret
      rw [← HSP2.out]
      exact HP.out
end Go.Proofs.YthngnbaoaeomeaaDoor
