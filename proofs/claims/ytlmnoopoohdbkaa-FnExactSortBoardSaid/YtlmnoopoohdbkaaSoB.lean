/- slices.SortFunc of pieces. -/
import Derived.Test.YtlmnoopoohdbkaaSoA
import Derived.Test.YtlmnoopoohdbkaaG4
namespace Go.Proofs.Ytlmnoopoohdbkaa
open Go.ChangeShapes Go.WideShapes Go.ChangeAt Go.RowKit Go.Shelf Go.Lib Go.Sort
set_option linter.unusedVariables false

instance inhPc : Inhabited Pc := ⟨so0⟩
theorem flatL_atS : ∀ (l : List Pc) (t : Nat), t < l.length * 5 → (flatL l)[t]? = some ((l.toArray[t / 5]!.cells)[t % 5]!)
  | [], t, h => by simp at h
  | p :: l, t, h => by
    have e : flatL (p :: l) = p.cells ++ flatL l := rfl
    rw [e]
    by_cases h5 : t < 5
    · rw [List.getElem?_append_left (by simpa [Pc.cells] using h5)]
      have h0 : t / 5 = 0 := by omega
      have h1 : t % 5 = t := by omega
      rw [h0, h1]
      have hc : t = 0 ∨ t = 1 ∨ t = 2 ∨ t = 3 ∨ t = 4 := by omega
      rcases hc with rfl | rfl | rfl | rfl | rfl <;> rfl
    · obtain ⟨s, rfl⟩ : ∃ s, t = 5 + s := ⟨t - 5, by omega⟩
      rw [List.getElem?_append_right (by simp [Pc.cells])]
      have hs : s < l.length * 5 := by simp at h; omega
      rw [show 5 + s - p.cells.length = s by simp [Pc.cells], flatL_atS l s hs, show (5 + s) / 5 = s / 5 + 1 by omega, show (5 + s) % 5 = s % 5 by omega]
      simp
theorem flatK_list (l : List Pc) : (flatK Pc.cells 5 l.toArray).toList = flatL l := by
  apply List.ext_getElem?
  intro t
  by_cases h : t < l.length * 5
  · rw [flatL_atS l t h]
    have h2 := get_flatK Pc.cells 5 l.toArray t (by simpa using h)
    have h3 : t < (flatK Pc.cells 5 l.toArray).size := by simpa using h
    rw [Array.getElem?_toList, Array.getElem?_eq_getElem h3, ← getElem!_pos _ t h3, h2]
  · rw [List.getElem?_eq_none (by simp; omega), List.getElem?_eq_none (by rw [flatL_length]; omega)]
theorem put_list (F cur : Array Value) (hF : F.size ≤ cur.size) : (putCells id 0 F cur).toList.take F.size = F.toList ∧ (putCells id 0 F cur).size = cur.size := by
  refine ⟨?_, by simp [putCells]⟩
  apply List.ext_getElem?
  intro t
  by_cases h : t < F.size
  · rw [List.getElem?_take_of_lt h, Array.getElem?_toList, Array.getElem?_toList]
    simp only [putCells, Array.getElem?_mapIdx]
    rw [Array.getElem?_eq_getElem (show t < cur.size by omega), Array.getElem?_eq_getElem h]
    simp [h]
  · rw [List.getElem?_eq_none (by simp; omega), List.getElem?_eq_none (by simp; omega)]
theorem swoSE : SWO (ltOf cmpP) where
  irrefl x := by
    have : ¬ cmpP x x < 0 := fun h => by have := (cmpP_neg x x).1 h; unfold ltSE at this; omega
    simpa [ltOf] using this
  trans x y z h1 h2 := by
    simp only [ltOf, decide_eq_true_eq] at h1 h2 ⊢
    rw [cmpP_neg] at h1 h2 ⊢
    unfold ltSE at *
    omega
  ntrans x y z h1 h2 := by
    simp only [ltOf, decide_eq_false_iff_not] at h1 h2 ⊢
    rw [cmpP_neg] at h1 h2 ⊢
    unfold ltSE at *
    omega
theorem grow_heap (w : World) (os : Array Obj) {k : Nat} (h : k < w.heap.size) : (grow w os).heap[k]? = w.heap[k]? := by
  simp only [grow]
  rw [Array.getElem?_append_left h]
theorem mapBlock_heap (w : World) (b : Nat) (f : Array Value → Array Value) {cs : Array Value} {t : TypeId} {fr : Nat × Nat} (h : w.heap[b]? = some (.cells cs t fr)) : (mapBlock w b f).heap[b]? = some (.cells (f cs) t fr) := by
  simp only [mapBlock]
  rw [Array.getElem?_modify, if_pos rfl, h]
  rfl
theorem mapBlock_other (w : World) (b k : Nat) (f : Array Value → Array Value) (h : k ≠ b) : (mapBlock w b f).heap[k]? = w.heap[k]? := by
  simp only [mapBlock]
  rw [Array.getElem?_modify, if_neg (fun e => h e.symm)]
theorem enters_SE : ∀ args w, (callFunc 64 args).run Try.prog w = .ok (.enter 64 args) w := enters_of Try.func64 (by kernel_rfl) rfl
theorem sortPc_any (base g n c : Nat) (l : List Pc) (w : World) (hn : l.length = n) (hmax : n ≤ 1048576) (hown : w.ownsRow base 66 5 (.slice (some ⟨g, 0, none⟩) n c) n (flatL l)) :
    Calls Try.prog 63 #[.slice (some ⟨g, 0, none⟩) n c, .func (.func 64) #[] #[]] w fun e w' => e = .returned (.tuple #[]) ∧ ∃ r : List Pc, r.Perm l ∧ r.Pairwise (fun p q => ¬ ltSE q p) ∧ w'.ownsRow base 66 5 (.slice (some ⟨g, 0, none⟩) n c) n (flatL r) ∧ ∀ W0, Below W0.heap.size W0 w → W0.heap.size ≤ g → Below W0.heap.size W0 w' := by
  obtain ⟨_, ⟨h, _⟩ | ⟨g', c', cur, hv, hbg, hg, hnc, hcm, hcs, htk⟩⟩ := hown
  · simp at h
  obtain ⟨rfl, rfl⟩ : g' = g ∧ c' = c := by simp at hv; exact ⟨hv.1.symm, hv.2.symm⟩
  have hgl : g' < w.heap.size := blk_lt hg
  have hfs : (flatK Pc.cells 5 l.toArray).size = n * 5 := by simp [hn]
  have hH : HoldsK Pc.cells 5 w g' 0 l.toArray := by
    intro j hj
    rw [hfs] at hj
    have hj2 : j < (flatK Pc.cells 5 l.toArray).size := by rw [hfs]; exact hj
    have h1 : cur[j]? = some (flatK Pc.cells 5 l.toArray)[j]! := by
      have h2 : (cur.toList.take (n * 5))[j]? = some (flatK Pc.cells 5 l.toArray)[j]! := by
        rw [htk, ← flatK_list, Array.getElem?_toList, Array.getElem?_eq_getElem hj2, ← getElem!_pos _ j hj2]
      rw [List.getElem?_take_of_lt hj] at h2
      simpa using h2
    rw [Nat.zero_add]
    exact ⟨(cell_of_row w g' j _ _ _ hg).trans h1, frozen_of_row w g' j _ _ hg⟩
  have hcon := AnyQ.slices_SortFunc sortPc 5 Try.isAgg66 Try.sizeOf66 Pc.cells (fun _ => rfl) (fun x v hv => pc_one x v hv) cmpP swoSE 64 #[] g' 0 c' l.toArray w enters_SE (fun m os dk hs x y => compareSE_any x y _) hH hgl (by simp; omega)
  have e1 : l.toArray.size = n := by simpa using hn
  rw [e1] at hcon
  refine (show Calls Try.prog 63 _ w _ from hcon).mono ?_
  rintro e w' ⟨he, d', m, os, hp, hs, rfl⟩
  have ea : (Go.Sort.ahead w m).heap.size = w.heap.size := rfl
  refine ⟨he, d'.toList, ?_, ?_, ?_, ?_⟩
  · have h1 := hp.2.2
    have h2 : d'.size = n := by rw [hp.1, e1]
    have h3 : d'.extract 0 n = d' := by rw [← h2]; simp
    have h4 : l.toArray.extract 0 n = l.toArray := by rw [← e1]; simp
    rw [h3, h4] at h1
    simpa using h1
  · rw [List.pairwise_iff_getElem]
    intro i j hi hj hij
    have h2 : d'.size = n := by rw [hp.1, e1]
    have h3 := hs i j (Nat.zero_le _) hij (by simp at hj; omega)
    have hi' : i < d'.size := by simpa using hi
    have hj' : j < d'.size := by simpa using hj
    rw [getElem!_pos d' i hi', getElem!_pos d' j hj'] at h3
    simp only [ltOf, decide_eq_false_iff_not] at h3
    rw [cmpP_neg] at h3
    simpa using h3
  · have h2 : d'.size = n := by rw [hp.1, e1]
    have hfd : (flatK Pc.cells 5 d').size = n * 5 := by simp [h2]
    have hfl : (flatK Pc.cells 5 d').toList = flatL d'.toList := by have := flatK_list d'.toList; simpa using this
    obtain ⟨q1, q2⟩ := put_list (flatK Pc.cells 5 d') cur (by rw [hfd, hcs]; omega)
    refine ⟨by rw [flatL_length]; simp [h2], .inr ⟨g', c', putCells id 0 (flatK Pc.cells 5 d') cur, rfl, hbg, ?_, hnc, hcm, by rw [q2, hcs], by rw [← hfd, q1, hfl]⟩⟩
    have hg2 : (Go.Sort.ahead w m).heap[g']? = some (.cells cur 66 (0, 0)) := hg
    unfold sortWorldK putRowK putRow
    rw [grow_heap _ _ (by simp only [mapBlock]; simpa using hgl)]
    exact mapBlock_heap _ _ _ hg2
  · intro W0 hW hge
    refine ⟨hW.os, hW.tape, hW.output, ?_, fun k hk => ?_⟩
    · have := hW.size
      simp only [sortWorldK, putRowK, putRow, mapBlock, grow, Array.size_append, Array.size_modify]
      omega
    · have h1 := hW.block k hk
      have h2 := hW.size
      unfold sortWorldK putRowK putRow
      rw [grow_heap _ _ (by simp only [mapBlock, Array.size_modify]; omega), mapBlock_other _ _ _ _ (by omega)]
      exact h1
end Go.Proofs.Ytlmnoopoohdbkaa
