/- Slices of numbers: the laws' own copies. -/
import Derived.Test.YtlbnhdnmcnfgdaaIn
namespace Go.Proofs.Ytlbnhdnmcnfgdaa
open Go.ChangeShapes Go.WideShapes Go.ChangeAt Go.RowKit Go.Joins Go.Deep
set_option linter.unusedVariables false
set_option linter.unusedSimpArgs false

theorem info_i64n : (Try.prog.info? 2).map (fun i => (i.zero, i.size, i.bytes)) = some (some (.int .i64 0), 1, 8) := by kernel_rfl
set_option maxRecDepth 100000 in
set_option maxHeartbeats 2000000 in
theorem toInt64S_some (b o n cap : Nat) (l : List Int) (w : World) (hc : InsAt w b o l) (hb : b < w.heap.size) (hn : l.length = n) (hcap : n ≤ cap) (hmax : n ≤ 1048576) :
    Calls Try.prog 33 #[.slice (some ⟨b, o, none⟩) n cap] w fun e w' => e = .returned (.slice (some ⟨w.heap.size, 0, none⟩) n n) ∧ InsAt w' w.heap.size 0 l ∧ w.heap.size < w'.heap.size ∧ (∀ j, w'.frozen? ⟨w.heap.size, j, none⟩ = false) ∧ Below w.heap.size w w' := by
  have Hn := Lib.hid hn
  clear hn
  obtain ⟨i0, hi, hz0, hz1, hz2⟩ := info_parts info_i64n
  go_enter Try.func33, Try.ntmps33
  go_wp2_with (refine wpList_make_full _ rfl _ _ 49 rfl w.heap.size 2 i0 _ 1 Try.underlying49 hi hz0 hz1 _ _ _ _ n rfl rfl rfl rfl ?c1 ?c2 ?c3 ?_)
  case c1 => rw [hz2]; omega
  case c2 => unfold maxLen; omega
  case c3 => exact Nat.le_refl _
  intro w1 hown hgr
  have hF : FilledIn w1 w.heap.size 0 n l 0 := FilledIn.made (w' := w) (v := .int .i64 0) hown
  have hB : Below w.heap.size w w1 := (Below.refl _ _).grown hgr (Nat.le_refl _) (by intro k hk; cases hk)
  clear hown hgr hz0 hz1 hz2 hi i0
  go_wp2
  go_loopw [4] (fun i wr => ∃ k : Nat, k ≤ n ∧ i = .int .i64 k ∧ FilledIn wr w.heap.size 0 n l k ∧ Below w.heap.size w wr) (fun i _ => n - (intOf i).toNat)
  case atStart => exact ⟨0, by omega, rfl, hF, hB⟩
  case round =>
    obtain ⟨k, hk, rfl, hf, hbr⟩ := hrel
    by_cases hlt : k < n
    · have hlk : k < l.length := by rw [Hn.out]; exact hlt
      have hpc := (hc.below hbr hb) k hlk
      generalize hpe : l[k] = p at hpc
      have Hp := Lib.hid hpe
      obtain ⟨hs2, hd2, hx2, hz2⟩ := id hf
      obtain ⟨v0, d0⟩ := hx2 k (by omega)
      have f0 := hz2 k
      have HF := Lib.hid (hf.store hlk Hp.out hlt)
      simp only [Nat.zero_add] at d0 HF
      have HB : Hid (Below w.heap.size w (wr.setCell ⟨w.heap.size, k, none⟩ (.int .i64 p))) := Lib.hid (kSet hbr (Nat.le_refl _) _)
      clear hd2 hx2 hz2 hf hbr hpe hc hF hB
      go_wp2
      exact ⟨⟨k + 1, by omega, by go_num, HF.out, HB.out⟩, by simp [intOf]; omega⟩
    · have e : k = n := by omega
      have H1 : Hid (InsAt wr w.heap.size 0 l) := Lib.hid (fun i hi => hf.2.1 i hi (by rw [e, ← Hn.out]; exact hi))
      have H2 := hf.1
      have H3 : Hid (∀ j, wr.frozen? ⟨w.heap.size, j, none⟩ = false) := Lib.hid hf.2.2.2
      clear e hf hF hB hc
      go_wp2
      go_ret
      exact ⟨rfl, H1.out, H2, H3.out, hbr⟩
set_option maxRecDepth 100000 in
set_option maxHeartbeats 2000000 in
theorem toInt64S_empty (a : Option Addr) (cap : Nat) (w : World) :
    Calls Try.prog 33 #[.slice a 0 cap] w fun e w' => e = .returned (.slice (some ⟨w.heap.size, 0, none⟩) 0 0) ∧ w.heap.size < w'.heap.size ∧ (∀ j, w'.frozen? ⟨w.heap.size, j, none⟩ = false) ∧ Below w.heap.size w w' := by
  obtain ⟨i0, hi, hz0, hz1, hz2⟩ := info_parts info_i64n
  go_enter Try.func33, Try.ntmps33
  go_wp2_with (refine wpList_make_full _ rfl _ _ 49 rfl w.heap.size 2 i0 _ 1 Try.underlying49 hi hz0 hz1 _ _ _ _ 0 rfl rfl rfl rfl ?c1 ?c2 ?c3 ?_)
  case c1 => rw [hz2]; omega
  case c2 => unfold maxLen; omega
  case c3 => exact Nat.le_refl _
  intro w1 hown hgr
  have hF : FilledIn w1 w.heap.size 0 0 [] 0 := FilledIn.made (w' := w) (v := .int .i64 0) hown
  have hB : Below w.heap.size w w1 := (Below.refl _ _).grown hgr (Nat.le_refl _) (by intro k hk; cases hk)
  have hs := hF.1
  have H3 : Hid (∀ j, w1.frozen? ⟨w.heap.size, j, none⟩ = false) := Lib.hid hF.2.2.2
  clear hown hgr hz0 hz1 hz2 hi i0 hF
  go_wp2
  refine wp_loop_rounds 1 ?_
  rw [rounds_succ]
  go_wp2
  go_ret
  exact ⟨rfl, hs, H3.out, hB⟩
theorem toInt64S_any (v : Value) (l : List Int) (w : World) (h : SlIn w l v) (hmax : l.length ≤ 1048576) :
    Calls Try.prog 33 #[v] w fun e w' => e = .returned (.slice (some ⟨w.heap.size, 0, none⟩) l.length l.length) ∧ InsAt w' w.heap.size 0 l ∧ w.heap.size < w'.heap.size ∧ (∀ j, w'.frozen? ⟨w.heap.size, j, none⟩ = false) ∧ Below w.heap.size w w' := by
  cases h with
  | empty a cap h => subst h; exact (toInt64S_empty a cap w).mono fun e w' ⟨h1, h2, h3, h4⟩ => ⟨h1, fun i hi => absurd hi (by simp), h2, h3, h4⟩
  | mk b o cap hc hb hl => exact toInt64S_some b o _ cap l w hc hb rfl hl hmax
theorem intsIn_list {cs : List Value} {k0 : IntKind} (h : Ints cs [k0]) : ∃ u0 : Int, cs = [.int k0 u0] ∧ (Lit.int k0 u0).wf = true := by
  match cs, h with
  | [_], ⟨⟨x0, rfl, h0⟩, _⟩ => exact ⟨x0, rfl, h0⟩
theorem In_of_cells {w : World} {base b o : Nat} {cs : List Value} (h : w.cells? base ⟨b, o, none⟩ 1 = some cs) (hi : Ints cs [.i64]) : ∃ p : Int, w.cell? ⟨b, o, none⟩ = some (.int .i64 p) ∧ (Lit.int .i64 p).wf = true := by
  obtain ⟨x0, rfl, h0⟩ := intsIn_list hi
  obtain ⟨_, _, hc⟩ := World.cells?_some h
  have e0 := hc 0 (by omega)
  rw [add_none] at e0
  exact ⟨x0, e0, h0⟩
theorem open_Ins {H : Type} {enc : TypeId × Value → H} {P : Program} {w : World} {base : Nat} {spare : Nat → Bool} {held : Bool} {t e : TypeId} {fuel : Nat} {v : Value} {x : DataW H × List MemPlace}
    (ht : P.underlying t = some (.slice e)) (hce : P.cellsOf e = 1) (hfl : flat P 4 e = some [.i64]) (h : DataW.trod enc P w base spare held fuel t [v] = some x) :
    ∃ l : List Int, SlIn w l v ∧ InsWf l ∧ l.length ≤ maxLen := by
  rcases open_slice ht h with ⟨h0, _⟩ | ⟨a, len, cap, m, n, D, Pl, hcs, hb, hl, hm, hmm, _, hi⟩
  · simp only [List.cons.injEq, and_true] at h0
    subst h0
    exact ⟨[], .empty none 0 rfl, fun _ h => absurd h (by simp), Nat.zero_le _⟩
  · simp only [List.cons.injEq, and_true] at hcs
    subst hcs
    have hml : len ≤ m := by rw [hmm]; split <;> omega
    by_cases h0 : len = 0
    · subst h0
      exact ⟨[], .empty (some a) cap rfl, fun _ h => absurd h (by simp), Nat.zero_le _⟩
    · rw [hce] at hi
      obtain ⟨cs0, hc0, _⟩ := hi 0 (by omega)
      obtain ⟨hs, hbl⟩ := spot_of_cells (by omega) hc0
      obtain ⟨b, o, s⟩ := a
      have hs' : s = none := hs
      have hbl' : b < w.heap.size := hbl
      clear hs hbl hc0
      subst hs'
      have hp : ∀ i, i < len → ∃ p : Int, w.cell? ⟨b, o + i * 1, none⟩ = some (.int .i64 p) ∧ (Lit.int .i64 p).wf = true := by
        intro i hil
        obtain ⟨cs, hc, hx⟩ := hi i (by omega)
        rw [add_none] at hc
        exact In_of_cells hc (flat_ints 4 e _ n cs _ hfl hx)
      obtain ⟨F, hF⟩ : ∃ F : Nat → Int, ∀ i, i < len → w.cell? ⟨b, o + i * 1, none⟩ = some (.int .i64 (F i)) ∧ (Lit.int .i64 (F i)).wf = true :=
        ⟨fun i => if h : i < len then Classical.choose (hp i h) else 0, fun i h => by simp only [h, dite_true]; exact Classical.choose_spec (hp i h)⟩
      have hlen : ((List.range len).map F).length = len := by simp
      refine ⟨(List.range len).map F, ?_, ?_, by rw [hlen]; omega⟩
      · have := SlIn.mk (w := w) (l := (List.range len).map F) b o cap (fun i hi => by
          rw [hlen] at hi
          simp only [List.getElem_map, List.getElem_range]
          have := (hF i hi).1; rw [Nat.mul_one] at this; exact this) hbl' (by rw [hlen]; exact hl)
        rwa [hlen] at this
      · intro p hp
        obtain ⟨i, hi, rfl⟩ := List.mem_map.1 hp
        exact (hF i (List.mem_range.1 hi)).2
theorem SlIn.len {w : World} {l : List Int} {a : Option Addr} {n c : Nat} (h : SlIn w l (.slice a n c)) : n = l.length := by
  cases h with
  | empty a cap h => rw [h]; rfl
  | mk b o cap _ _ _ => rfl
theorem In_cells : Try.prog.cellsOf 2 = 1 := by kernel_rfl
set_option maxRecDepth 100000 in
theorem In_flat : flat Try.prog 4 2 = some [.i64] := by kernel_rfl
end Go.Proofs.Ytlbnhdnmcnfgdaa
