/- DepthOf's parts. -/
import Derived.Test.YtebicgfoaefabaaDoorG20
import Derived.Test.YtebicgfoaefabaaDoorIn
namespace Go.Proofs.YtebicgfoaefabaaDoor
open Go.ChangeShapes Go.WideShapes Go.ChangeAt Go.RowKit Go.Joins Go.Deep
set_option linter.unusedVariables false
set_option linter.unusedSimpArgs false

theorem info_i64d : (Tryd.prog.info? 2).map (fun i => (i.zero, i.size, i.bytes)) = some (some (.int .i64 0), 1, 8) := by kernel_rfl
theorem one_set {w : World} {b : Nat} {u u' : Value} {t : TypeId} (h : w.heap[b]? = some (.cells #[u] t (0, 0))) : (w.setCell ⟨b, 0, none⟩ u').heap[b]? = some (.cells #[u'] t (0, 0)) := by
  have := blk_set_same' (i := 0) (v := u') h
  simpa using this
/-- the tables at some places -/
def pickI (T : List Int) (p : List Int) : List Int := p.map fun x => T.getD x.toNat 0
theorem pickI_length (T p : List Int) : (pickI T p).length = p.length := by simp [pickI]
theorem pickI_get (T p : List Int) (i : Nat) (h : i < (pickI T p).length) (h' : i < p.length) : (pickI T p)[i] = T.getD (p[i]).toNat 0 := by simp [pickI]
theorem getD_atI {l : List Int} {i : Nat} (h : i < l.length) : l.getD i 0 = l[i] := by rw [List.getD_eq_getElem?_getD, List.getElem?_eq_getElem h]; rfl
theorem l00Max_any (a b : Int) (w : World) (c : Int) (hc : max a b = c) :
    Calls Tryd.prog 24 #[.int .i64 a, .int .i64 b] w fun e w' => e = .returned (.int .i64 c) ∧ w = w' := by
  by_cases h : b < a
  · obtain rfl : c = a := by omega
    have h' : decide (b < c) = true := by simpa using h
    clear hc h
    go_enter Tryd.func24, Tryd.ntmps24
    go_wp2
    go_ret
    exact ⟨rfl, rfl⟩
  · obtain rfl : c = b := by omega
    have h' : decide (c < a) = false := by simpa using h
    clear hc h
    go_enter Tryd.func24, Tryd.ntmps24
    go_wp2
    go_ret
    exact ⟨rfl, rfl⟩
theorem isGate_any (x : Nd) (w : World) (R : Bool) (hR : R = decide (x.kind = 2 ∨ x.kind = 3)) :
    Calls Tryd.prog 25 #[.agg #[.int .i8 x.kind, .int .i16 x.a, .int .i16 x.b]] w fun e w' => e = .returned (.bool R) ∧ Below w.heap.size w w' := by
  by_cases h2 : x.kind = 2
  · obtain rfl : R = true := by rw [hR]; simp [h2]
    have h2' : (x.kind == 2) = true := by simpa using h2
    clear hR h2
    go_enter Tryd.func25, Tryd.ntmps25
    go_wp2
    go_ret
    exact ⟨rfl, by repeat (first | with_reducible exact Below.refl _ _ | (with_reducible refine kSet ?_ ?hB _; case hB => (simp; try omega)) | with_reducible refine kAlloc ?_ _ | with_reducible refine Below.drew ?_ | with_reducible refine kDrewN ?_ _ | with_reducible refine kTrans ?_ (by assumption))⟩
  · by_cases h3 : x.kind = 3
    · obtain rfl : R = true := by rw [hR]; simp [h3]
      have h2' : (x.kind == 2) = false := by simpa using h2
      have h3' : (x.kind == 3) = true := by simpa using h3
      clear hR h2 h3
      go_enter Tryd.func25, Tryd.ntmps25
      go_wp2
      go_ret
      exact ⟨rfl, by repeat (first | with_reducible exact Below.refl _ _ | (with_reducible refine kSet ?_ ?hB _; case hB => (simp; try omega)) | with_reducible refine kAlloc ?_ _ | with_reducible refine Below.drew ?_ | with_reducible refine kDrewN ?_ _ | with_reducible refine kTrans ?_ (by assumption))⟩
    · obtain rfl : R = false := by rw [hR]; simp [h2, h3]
      have h2' : (x.kind == 2) = false := by simpa using h2
      have h3' : (x.kind == 3) = false := by simpa using h3
      clear hR
      go_enter Tryd.func25, Tryd.ntmps25
      go_wp2
      go_ret
      exact ⟨rfl, by repeat (first | with_reducible exact Below.refl _ _ | (with_reducible refine kSet ?_ ?hB _; case hB => (simp; try omega)) | with_reducible refine kAlloc ?_ _ | with_reducible refine Below.drew ?_ | with_reducible refine kDrewN ?_ _ | with_reducible refine kTrans ?_ (by assumption))⟩
set_option maxRecDepth 100000 in
set_option maxHeartbeats 4000000 in
theorem putI_any (P base : Nat) (v : Value) (acc : List Int) (t : Int) (w : World) (hP : w.heap[P]? = some (.cells #[v] 58 (0, 0))) (hown : w.ownsRow base 2 1 v acc.length (flatIn acc)) (hPb : P < base) (hbase : base ≤ w.heap.size) (hlen : acc.length ≤ 100) :
    Calls Tryd.prog 26 #[.pointer (some ⟨P, 0, none⟩), .int .i64 t] w fun e w' => e = .returned (.int .i16 acc.length) ∧
      (∃ v', w'.heap[P]? = some (.cells #[v'] 58 (0, 0)) ∧ w'.ownsRow base 2 1 v' (acc ++ [t]).length (flatIn (acc ++ [t]))) ∧ Below P w w' := by
  obtain ⟨i0, hi0, hz0, hzz1, hzz2⟩ := info_parts info_i64d
  have Hi := Lib.hid hi0
  have Hz0 := Lib.hid hz0
  have Hz1 := Lib.hid hzz1
  have Hz2 := Lib.hid hzz2
  have hPl := blk_lt hP
  have c1 : w.cell? ⟨P, 0, none⟩ = some v := cell_of_row _ _ 0 _ _ _ hP
  obtain ⟨va, vc, rfl⟩ := owns_slice hown
  have Hown := Lib.hid hown
  have Hblk := Lib.hid (owns_block hown)
  have HP := Lib.hid hP
  obtain ⟨m, hm⟩ : ∃ m, acc.length = m := ⟨_, rfl⟩
  have Hm := Lib.hid hm
  rw [hm] at Hown Hblk c1 HP hlen ⊢
  clear hi0 hz0 hzz1 hzz2 hP hown hm
  go_enter Tryd.func26, Tryd.ntmps26
  go_wp2_with (at_builtin; refine wpList_append_own _ rfl _ _ 58 rfl base 2 i0 _ 1 8 Tryd.underlying58 Hi.out Hz0.out Hz1.out Hz2.out rfl (by decide) (.slice va m vc) m (flatIn acc) rfl (owns_below Hown.out (by repeat (first | with_reducible exact Below.refl _ _ | (with_reducible refine kSet ?_ ?hB _; case hB => (simp; try omega)) | with_reducible refine kAlloc ?_ _ | with_reducible refine Below.drew ?_ | with_reducible refine kDrewN ?_ _ | with_reducible refine kTrans ?_ (by assumption)))) ⟨w.heap.size, 0, none⟩ 1 1 [.int .i64 t] rfl rfl (World.news_of_block (cs := #[.int .i64 t]) (heap_alloc_new _ _)) (by simp [Value.oneCell']) ?qc4 ?qc5 ?qc6 ?_)
  case qc4 => unfold maxLen; omega
  case qc5 => omega
  case qc6 => simp; omega
  intro v6 w6 hown6 hgr hnil
  have hne : (Value.slice va m vc).ownBlock ≠ some P := fun e => by have := (Hblk.out P e).1; omega
  have hP6 : w6.heap[P]? = some (.cells #[.slice va m vc] 58 (0, 0)) := (hgr.block P (by simp; omega) (fun e => hne e.symm)).trans (blk_below HP.out (kAlloc (Below.refl _ _) _))
  have f6 : w6.frozen? ⟨P, 0, none⟩ = false := frozen_of_row _ _ 0 _ _ hP6
  have d6 : w6.cell? ⟨P, 0, none⟩ = some (.slice va m vc) := cell_of_row _ _ 0 _ _ _ hP6
  have hl6 := blk_lt hP6
  have Hown6 := Lib.hid (show w6.ownsRow base 2 1 v6 (acc ++ [t]).length (flatIn (acc ++ [t])) by rw [flatIn_end, List.length_append, Hm.out]; exact hown6)
  have B6 : Below P w w6 := (((kAlloc (Below.refl w.heap.size w) _).mono (Nat.le_of_lt hPl)).grown hgr (by simp; omega) (fun k hk => by have := (Hblk.out k hk).1; omega))
  obtain ⟨ua, uc, rfl⟩ := owns_slice Hown6.out
  have HP6 := Lib.hid hP6
  have hm16 : IntKind.i16.wrap (m : Int) = m := IntWalk.i16_in _ (by omega)
  have hal : (acc ++ [t]).length = m + 1 := by rw [List.length_append, Hm.out]; rfl
  have Hal := Lib.hid hal
  rw [hal] at Hown6 ⊢
  clear hown6 hgr hnil hP6 c1 Hown hal
  go_wp2
  go_ret
  refine ⟨rfl, ⟨_, one_set HP6.out, ?_⟩, ?_⟩
  · rw [Hal.out]
    exact owns_set_far (t := 58) Hown6.out HP6.out (by decide) 0 _
  · exact B6.setCell (Nat.le_refl _) _
set_option maxRecDepth 100000 in
set_option maxHeartbeats 4000000 in
theorem itemsI_any (g o N vc k q : Nat) (T p : List Int) (w : World) (hT : T.length = N) (hc : InsAt w g o T) (hg : g < w.heap.size) (hcap : N ≤ vc) (hp : ShsAt w k 0 p) (hk : k < w.heap.size) (hq : p.length = q) (hN : N ≤ 80) (hq8 : q ≤ 8) (hr : ∀ x ∈ p, 0 ≤ x ∧ x < N) (L : List Int) (hL : pickI T p = L) :
    Calls Tryd.prog 28 #[.slice (some ⟨g, o, none⟩) N vc, .slice (some ⟨k, 0, none⟩) q q] w fun e w' => ∃ v, e = .returned v ∧ SlWIn w.heap.size w'.heap.size w' L v ∧ Below w.heap.size w w' := by
  obtain ⟨i0, hi, hz0, hz1, hz2⟩ := info_parts info_i64d
  have HT := Lib.hid hT
  have Hq := Lib.hid hq
  have HR := Lib.hid hr
  have HLt := Lib.hid (show L.length = q by rw [← hL, pickI_length, hq])
  have HLg : Hid (∀ (i : Nat) (h : i < L.length) (h' : i < p.length), L[i] = T.getD (p[i]).toNat 0) := Lib.hid (by subst hL; exact fun i h h' => pickI_get T p i h h')
  clear hT hq hr hL
  go_enter Tryd.func28, Tryd.ntmps28
  go_wp2_with (refine wpList_make_full _ rfl _ _ 53 rfl w.heap.size 2 i0 _ 1 Tryd.underlying53 hi hz0 hz1 _ _ _ _ q rfl rfl rfl rfl ?c1 ?c2 ?c3 ?_)
  case c1 => rw [hz2]; omega
  case c2 => unfold maxLen; omega
  case c3 => exact Nat.le_refl _
  intro w1 hown hgr
  have hF : FilledIn w1 w.heap.size 0 q L 0 := FilledIn.made (w' := w) (v := .int .i64 0) hown
  have hB : Below w.heap.size w w1 := (Below.refl _ _).grown hgr (Nat.le_refl _) (by intro k hk; cases hk)
  have HF := Lib.hid hF
  clear hown hgr hz0 hz1 hz2 hi i0 hF
  go_wp2
  go_loopw [6, 7, 13] (fun _ _ i wr => ∃ j : Nat, j ≤ q ∧ i = .int .i64 j ∧ Hid (FilledIn wr w.heap.size 0 q L j) ∧ Below w.heap.size w wr) (fun _ _ i _ => q - (intOf i).toNat)
  case atStart => exact ⟨0, by omega, rfl, HF, hB⟩
  case round =>
    clear HF hB
    obtain ⟨j, hj, rfl, hf, hbr⟩ := hrel
    by_cases hlt : j < q
    · have hlk : j < p.length := by rw [Hq.out]; exact hlt
      have hlL : j < L.length := by rw [HLt.out]; exact hlt
      have hpc := (hp.below hbr hk) j hlk
      have hgt := HLg.out j hlL hlk
      have hrr := HR.out _ (List.getElem_mem hlk)
      generalize p[j] = x at hpc hgt hrr
      obtain ⟨kx, rfl⟩ : ∃ kx : Nat, x = kx := ⟨x.toNat, by omega⟩
      have hkT : kx < T.length := by have := HT.out; omega
      have hkN : kx < N := by omega
      rw [Int.toNat_natCast, getD_atI hkT] at hgt
      have ht := (hc.below hbr hg) kx hkT
      generalize T[kx] = y at hgt ht
      simp only [Nat.zero_add] at hpc
      have hbx := hf.out.1
      obtain ⟨v0, d0⟩ := hf.out.2.2.1 j hlt
      have f0 := hf.out.2.2.2 j
      have HF3 := Lib.hid (hf.out.store hlL hgt hlt)
      have HB3 := Lib.hid (kSet hbr (show w.heap.size ≤ (⟨w.heap.size, 0 + j, none⟩ : Addr).block from Nat.le_refl _) (.int .i64 y))
      have hg3 := Nat.lt_of_lt_of_le hg hbr.size
      have hk3 := Nat.lt_of_lt_of_le hk hbr.size
      simp only [Nat.zero_add] at d0 HF3 HB3
      clear hgt hf
      go_wp2
      exact ⟨⟨j + 1, by omega, by go_num, HF3, HB3.out⟩, by simp [intOf]; omega⟩
    · obtain rfl : j = q := by omega
      have H1 : Hid (SlWIn w.heap.size wr.heap.size wr L (.slice (some ⟨w.heap.size, 0, none⟩) j j)) := Lib.hid (by
        have h := SlWIn.mk (lo := w.heap.size) (hi := wr.heap.size) (w := wr) (l := L) w.heap.size 0 j (fun i hi => hf.out.2.1 i hi (by have := HLt.out; omega)) (Nat.le_refl _) hf.out.1 hf.out.1 hf.out.2.2.2 (by rw [HLt.out]; exact Nat.le_refl _)
        rwa [HLt.out] at h)
      clear hf
      go_wp2
      go_ret
      exact ⟨_, rfl, H1.out, hbr⟩
end Go.Proofs.YtebicgfoaefabaaDoor
