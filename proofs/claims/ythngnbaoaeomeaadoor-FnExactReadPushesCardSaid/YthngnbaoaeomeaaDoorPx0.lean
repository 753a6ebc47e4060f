/- PushesText: lists; Itoa; the builder with its frame. -/
import Derived.Test.YthngnbaoaeomeaaDoorTx2
import Derived.Test.YthngnbaoaeomeaaDoorTxM
import Derived.Test.YthngnbaoaeomeaaDoorTw
import Derived.Test.YthngnbaoaeomeaaDoorG7
import Derived.Shelf.Strings.BuilderK
namespace Go.Proofs.YthngnbaoaeomeaaDoor
open Go.ChangeShapes Go.WideShapes Go.ChangeAt Go.RowKit Go.Joins Go.Deep
set_option linter.unusedVariables false
set_option linter.unusedSimpArgs false

def puWs (p : Pu) : List (List UInt8) := [decL p.x, decL p.y, sideWL p.side, decL p.tick]
def puLine (p : Pu) : List UInt8 := lineL (puWs p)
def puL (r : List Pu) : List UInt8 := r.flatMap puLine
def ptQ (R : Bool) (l : List Pu) : List UInt8 := if R = true then puL l else []
def puIn (p : Pu) : Prop := 0 ≤ p.x ∧ p.x ≤ 23 ∧ 0 ≤ p.y ∧ p.y ≤ 23 ∧ 0 ≤ p.side ∧ p.side ≤ 3 ∧ 0 ≤ p.tick ∧ p.tick ≤ 1000
theorem puIn_of {p : Pu} (h : p.plain = true) : puIn p := by
  have := of_decide_eq_true h
  unfold puIn
  omega
theorem puLine_len {p : Pu} (h : puIn p) : (puLine p).length ≤ 25 := by
  unfold puIn at h
  refine lineL_len (m := 5) (ws := puWs p) (fun x hx => ?_)
  simp only [puWs, List.mem_cons, List.not_mem_nil, or_false] at hx
  rcases hx with rfl | rfl | rfl | rfl
  · have := decL_len2 (n := p.x) (by omega); omega
  · have := decL_len2 (n := p.y) (by omega); omega
  · exact sideWL_len _
  · have := decL_len4 (n := p.tick) (by omega); omega
theorem puL_len : ∀ (r : List Pu), (∀ p ∈ r, puIn p) → (puL r).length ≤ r.length * 25
  | [], _ => by simp [puL]
  | p :: r, h => by
    have h1 := puL_len r (fun q hq => h q (List.mem_cons_of_mem _ hq))
    have h2 := puLine_len (h p (List.mem_cons_self ..))
    unfold puL at h1 ⊢
    rw [List.flatMap_cons, List.length_append, List.length_cons]
    omega
theorem puL_succ {l : List Pu} {k : Nat} (h : k < l.length) : puL (l.take (k + 1)) = puL (l.take k) ++ puLine l[k] := by
  unfold puL
  rw [List.take_succ_eq_append_getElem h, List.flatMap_append]
  simp
theorem plains_step {l : List Pu} {k : Nat} (h : k < l.length) : plains (l.drop k) = (l[k].plain && plains (l.drop (k + 1))) := by
  rw [List.drop_eq_getElem_cons h]; rfl
theorem plains_mem : ∀ {l : List Pu}, plains l = true → ∀ p ∈ l, p.plain = true
  | q :: l, h, p, hp => by
    simp only [plains, Bool.and_eq_true] at h
    rcases List.mem_cons.1 hp with rfl | hp
    · exact h.1
    · exact plains_mem h.2 p hp
def PowAt (w : World) : Prop := Lib.TabIs Tryd.prog w "internal/strconv.uint64pow10" .u64 Lib.pow10Tab ∧ 6 < w.heap.size
theorem gPow : Tryd.prog.globalNamed "internal/strconv.uint64pow10" = some 6 := by kernel_rfl
theorem PowAt.below {w w' : World} (h : PowAt w) (b : Below w.heap.size w w') : PowAt w' := by
  refine ⟨?_, Nat.lt_of_lt_of_le h.2 b.size⟩
  have h1 := h.1
  unfold Lib.TabIs World.var? at h1 ⊢
  simp only [gPow, Option.bind_some] at h1 ⊢
  rw [b.block _ h.2]
  exact h1
theorem itoa_any (n : Int) (w : World) (h0 : 0 ≤ n) (h1 : n ≤ 1000) (hp : PowAt w) : Calls Tryd.prog 75 #[.int .i64 n] w fun e w' => e = .returned (.string (bsT (decL n))) ∧ Below w.heap.size w w' := by
  refine (strconv_Itoa n (by omega) (by omega) w hp.1).mono ?_
  rintro e w' ⟨rfl, k, os, rfl⟩
  refine ⟨by rw [show Lib.itoa n = decL n by unfold Lib.itoa decL; rw [if_neg (by omega)]]; rfl, ⟨rfl, rfl, rfl, ?_, fun i hi => ?_⟩⟩
  · simp [Go.Sort.grow, World.drewN]
  · simp only [Go.Sort.grow]
    rw [Array.getElem?_append_left (by exact hi)]
    rfl
def BFt (B b : Nat) (L : List UInt8) (w : World) : Prop := Lib.IsBuilderF 110 5 B b (Lib.byteCells L) w
theorem BFt.fresh (w : World) : BFt w.heap.size w.heap.size [] (w.alloc (.cells #[.pointer none, .slice none 0 0] 110)) := Lib.IsBuilderF.of (Lib.fresh_isBuilder _ _ _)
theorem BFt.lt {B b : Nat} {L : List UInt8} {w : World} (h : BFt B b L w) : b < w.heap.size := by
  rcases h with h | h <;> exact h.lt
theorem BFt.le {B b : Nat} {L : List UInt8} {w : World} (h : BFt B b L w) : B ≤ b := by
  rcases h with h | h <;> exact h.1
theorem BFt.below {B b : Nat} {L : List UInt8} {w w' : World} (h : BFt B b L w) (g : Below w.heap.size w w') : BFt B b L w' := by
  have key : ∀ p, Lib.BuilderAtF 110 5 B b p (Lib.byteCells L) w → Lib.BuilderAtF 110 5 B b p (Lib.byteCells L) w' := by
    rintro p ⟨h1, v, h2, h3, h4⟩
    refine ⟨h1, v, (g.block b (Array.getElem?_eq_some_iff.1 h2).1).trans h2, ⟨h3.1, ?_⟩, h4⟩
    rcases h3.2 with h | ⟨k, cap, cur, fz, e1, e2, e3, r⟩
    · exact .inl h
    · exact .inr ⟨k, cap, cur, fz, e1, e2, (g.block k (Array.getElem?_eq_some_iff.1 e3).1).trans e3, r⟩
  rcases h with h | h
  · exact .inl (key _ h)
  · exact .inr (key _ h)
theorem writeStrF_any (B b : Nat) (L r : List UInt8) (w : World) (h : BFt B b L w) (hlen : L.length + r.length ≤ 1000000) :
    Calls Tryd.prog 65 #[.pointer (some ⟨b, 0, none⟩), .string (bsT r)] w fun e w' => e = .returned (.tuple #[.int .i64 r.length, .nilIface]) ∧ BFt B b (L ++ r) w' ∧ Below B w w' ∧ Lib.OthersKept 5 (some b) w w' := by
  have hB : B ≤ w.heap.size := Nat.le_trans h.le (Nat.le_of_lt h.lt)
  have hc := Any.Builder_WriteString_k (ρ := lays156_ren) { lays156 with } Builder_Extra_156 B b (Lib.byteCells L) (bsT r) w h (by rw [Lib.byteCells_length, bsT_size]; omega) hB
  refine (show Calls Tryd.prog 65 _ w _ from hc).mono ?_
  rintro e w' ⟨rfl, h1, h2, h3⟩
  refine ⟨by rw [bsT_size], .inr ?_, h2, h3⟩
  rw [Lib.strCells_eq, bsT_list, ← Lib.byteCells_append] at h1
  exact h1
theorem builtStrF_any (B b : Nat) (L : List UInt8) (w : World) (h : BFt B b L w) :
    Calls Tryd.prog 67 #[.pointer (some ⟨b, 0, none⟩)] w fun e w' => e = .returned (.string (bsT L)) ∧ Below B w w' :=
  (show Calls Tryd.prog 67 _ w _ from Any.Builder_String_any_f (ρ := lays169_ren) lays169 Builder_Extra_169 B b L w h (Nat.le_trans h.le (Nat.le_of_lt h.lt))).mono fun _ _ ⟨h1, _, h2⟩ => ⟨h1, h2⟩
theorem isPushTickX_any (t : Int) (w : World) (r : Bool) (hr : r = decide (0 ≤ t ∧ t ≤ 1000)) :
    Calls Tryd.prog 74 #[.int .i64 t] w fun e w' => e = .returned (.bool r) ∧ w = w' := by
  by_cases h1 : 0 ≤ t
  · by_cases h2 : t ≤ 1000
    · obtain rfl : r = true := by rw [hr]; simp; omega
      clear hr
      go_enter Tryd.func74, Tryd.ntmps74
      go_wp2
      go_ret
      exact ⟨rfl, rfl⟩
    · obtain rfl : r = false := by rw [hr]; simp; omega
      have h3 : decide (t ≤ 1000) = false := by simp; omega
      clear hr h2
      go_enter Tryd.func74, Tryd.ntmps74
      go_wp2
      go_ret
      exact ⟨rfl, rfl⟩
  · obtain rfl : r = false := by rw [hr]; simp; omega
    have h3 : decide (0 ≤ t) = false := by simp; omega
    clear hr h1
    go_enter Tryd.func74, Tryd.ntmps74
    go_wp2
    go_ret
    exact ⟨rfl, rfl⟩
end Go.Proofs.YthngnbaoaeomeaaDoor
