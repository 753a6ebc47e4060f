/- ReadWay: what is asked of both sides; contracts with open answers. -/
import Derived.Test.YtobhppkcgioheaaDoorRd3
import Derived.OrdersHeld
namespace Go.Proofs.YtobhppkcgioheaaDoor
open Go.ChangeShapes Go.WideShapes Go.ChangeAt Go.RowKit Go.Joins Go.Deep
set_option linter.unusedVariables false
set_option linter.unusedSimpArgs false
theorem regionW_of_HR {id : Nat} {P : Program} {ops : Array Oper} {Q : Exit → Act → World → Prop} {a : Act} {w : World} (S : World → Prop) (hm : P.follows .mixedOrders = true)
    (hS : S w.drew) (h : S w.drew → wpAnyH P .any ops (fun e a w => e = .normal ∧ Q e a w) S ops.size (Array.replicate ops.size false) a w.drew) : (Code.region id ops true).wp P Q a w :=
  Code.wp_mono (fun _ _ _ h => h.2) (wp_region_held hm (h hS))

def wyWs (p : Wy) : List (List UInt8) := [decL p.fx, decL p.fy, sideWL p.sd, decL p.tx, decL p.ty, sideWL p.ot]
def wyZ : Wy := ⟨0, 0, 0, 0, 0, 0⟩
theorem wy_words (p : Wy) : spl 32 (wyL p) = wyWs p := by
  refine spl_join (c := 32) (ws := wyWs p) (by simp [wyWs]) (fun x hx => ?_)
  simp only [wyWs, List.mem_cons, List.not_mem_nil, or_false] at hx
  rcases hx with rfl | rfl | rfl | rfl | rfl | rfl
  · exact decL_no (by decide) _
  · exact decL_no (by decide) _
  · exact side_no (by decide) _
  · exact decL_no (by decide) _
  · exact decL_no (by decide) _
  · exact side_no (by decide) _
theorem wyIn {p : Wy} (h : wyPlain p = true) : (0 ≤ p.fx ∧ p.fx ≤ 23 ∧ 0 ≤ p.fy ∧ p.fy ≤ 23) ∧ (0 ≤ p.tx ∧ p.tx ≤ 23 ∧ 0 ≤ p.ty ∧ p.ty ≤ 23) ∧ (0 ≤ p.sd ∧ p.sd ≤ 3) ∧ (0 ≤ p.ot ∧ p.ot ≤ 3) := by
  unfold wyPlain at h
  simp only [Bool.and_eq_true, decide_eq_true_eq] at h
  exact ⟨h.1.1.1, h.1.1.2, h.1.2, h.2⟩
theorem side_eq {a b : Int} (ha : 0 ≤ a ∧ a ≤ 3) (hb : 0 ≤ b ∧ b ≤ 3) (h : sideWL a = sideWL b) : a = b := by
  obtain ⟨a, rfl⟩ : ∃ n : Nat, a = n := ⟨a.toNat, by omega⟩
  obtain ⟨b, rfl⟩ : ∃ n : Nat, b = n := ⟨b.toNat, by omega⟩
  have := side_inj a b (by omega) (by omega) h
  omega
theorem wy_inj {p q : Wy} (hp : wyPlain p = true) (hq : wyPlain q = true) (h : wyL p = wyL q) : p = q := by
  have h1 := wy_words p
  rw [h, wy_words] at h1
  have bp := wyIn hp
  have bq := wyIn hq
  obtain ⟨a0, a1, a2, a3, a4, a5⟩ := p
  obtain ⟨b0, b1, b2, b3, b4, b5⟩ := q
  simp only [wyWs, List.cons.injEq, and_true] at h1
  simp only at bp bq
  obtain ⟨e0, e1, e2, e3, e4, e5⟩ := h1
  have := decL_inj (by omega) (by omega) e0
  have := decL_inj (by omega) (by omega) e1
  have := side_eq (by omega) (by omega) e2
  have := decL_inj (by omega) (by omega) e3
  have := decL_inj (by omega) (by omega) e4
  have := side_eq (by omega) (by omega) e5
  simp only [Wy.mk.injEq]
  omega
/-- the answer of ReadWay -/
def RwA (l : List UInt8) (p : Wy) (C : Int) : Prop := (wyPlain p = true ∧ wyL p = l ∧ C = 0) ∨ ((∀ q, wyPlain q = true → wyL q ≠ l) ∧ p = wyZ ∧ C = 5)
theorem rwA_ex (l : List UInt8) : ∃ p C, RwA l p C := by
  by_cases h : ∃ q, wyPlain q = true ∧ wyL q = l
  · obtain ⟨q, h1, h2⟩ := h
    exact ⟨q, 0, .inl ⟨h1, h2, rfl⟩⟩
  · exact ⟨wyZ, 5, .inr ⟨fun q h1 h2 => h ⟨q, h1, h2⟩, rfl, rfl⟩⟩
theorem RwA.yes {l : List UInt8} {p q : Wy} {C : Int} (h : RwA l p C) (h1 : wyPlain q = true) (h2 : wyL q = l) : p = q ∧ C = 0 := by
  rcases h with ⟨a, b, c⟩ | ⟨a, _⟩
  · exact ⟨wy_inj a h1 (b.trans h2.symm), c⟩
  · exact absurd h2 (a q h1)
theorem RwA.no {l : List UInt8} {p : Wy} {C : Int} (h : RwA l p C) (h1 : ∀ q, wyPlain q = true → wyL q ≠ l) : p = wyZ ∧ C = 5 := by
  rcases h with ⟨a, b, _⟩ | ⟨_, b, c⟩
  · exact absurd b (h1 p a)
  · exact ⟨b, c⟩
theorem RwA.in8 {l : List UInt8} {p : Wy} {C : Int} (h : RwA l p C) : p.in8 := by
  rcases h with ⟨a, _⟩ | ⟨_, rfl, _⟩
  · have := wyIn a
    unfold Wy.in8 i8
    omega
  · unfold Wy.in8 i8 wyZ; simp
/-- six words that are right make a way -/
theorem rw_join {l : List UInt8} {a0 a1 a2 a3 a4 a5 : List UInt8} {p : Wy} (hws : spl 32 l = [a0, a1, a2, a3, a4, a5]) (h0 : a0 = decL p.fx) (h1 : a1 = decL p.fy) (h2 : a2 = sideWL p.sd) (h3 : a3 = decL p.tx) (h4 : a4 = decL p.ty) (h5 : a5 = sideWL p.ot) : wyL p = l := by
  rw [spl_back hws, h0, h1, h2, h3, h4, h5]; rfl
theorem rw_split {l : List UInt8} {a0 a1 a2 a3 a4 a5 : List UInt8} {q : Wy} (hws : spl 32 l = [a0, a1, a2, a3, a4, a5]) (h : wyL q = l) : a0 = decL q.fx ∧ a1 = decL q.fy ∧ a2 = sideWL q.sd ∧ a3 = decL q.tx ∧ a4 = decL q.ty ∧ a5 = sideWL q.ot := by
  rw [← h, wy_words] at hws
  simp only [wyWs, List.cons.injEq, and_true] at hws
  obtain ⟨e0, e1, e2, e3, e4, e5⟩ := hws
  exact ⟨e0.symm, e1.symm, e2.symm, e3.symm, e4.symm, e5.symm⟩
theorem rw_len {l : List UInt8} (h : (spl 32 l).length ≠ 6) : ∀ q, wyPlain q = true → wyL q ≠ l := fun q _ h2 => h (by rw [← h2, wy_words]; rfl)
theorem rw_yes {l : List UInt8} {a0 a1 a2 a3 a4 a5 : List UInt8} {k1 k2 : Int} (hws : spl 32 l = [a0, a1, a2, a3, a4, a5]) (h1 : WdQ sideWL 4 a2 k1) (h2 : WdQ sideWL 4 a5 k2) {p : Wy} {C : Int} (hA : RwA l p C)
    (b0 : smB a0 = true) (b1 : smB a1 = true) (b3 : smB a3 = true) (b4 : smB a4 = true) (hp : wyPlain ⟨smX a0, smX a1, k1, smX a3, smX a4, k2⟩ = true) : p = ⟨smX a0, smX a1, k1, smX a3, smX a4, k2⟩ ∧ C = 0 := by
  have hb := wyIn hp
  simp only at hb
  exact hA.yes hp (rw_join hws ((smQ_any a0).yes b0) ((smQ_any a1).yes b1) (h1.yes (by omega)) ((smQ_any a3).yes b3) ((smQ_any a4).yes b4) (h2.yes (by omega)))
theorem rw_no {l : List UInt8} {a0 a1 a2 a3 a4 a5 : List UInt8} {k1 k2 : Int} (hws : spl 32 l = [a0, a1, a2, a3, a4, a5]) (h1 : WdQ sideWL 4 a2 k1) (h2 : WdQ sideWL 4 a5 k2) {p : Wy} {C : Int} (hA : RwA l p C)
    (h : ¬ (smB a0 = true ∧ smB a1 = true ∧ smB a3 = true ∧ smB a4 = true ∧ wyPlain ⟨smX a0, smX a1, k1, smX a3, smX a4, k2⟩ = true)) : p = wyZ ∧ C = 5 := by
  refine hA.no (fun q hq hl => h ?_)
  obtain ⟨e0, e1, e2, e3, e4, e5⟩ := rw_split hws hl
  have hb := wyIn hq
  obtain ⟨c0, d0⟩ := (smQ_any a0).of _ (by omega) (by omega) e0
  obtain ⟨c1, d1⟩ := (smQ_any a1).of _ (by omega) (by omega) e1
  obtain ⟨c3, d3⟩ := (smQ_any a3).of _ (by omega) (by omega) e3
  obtain ⟨c4, d4⟩ := (smQ_any a4).of _ (by omega) (by omega) e4
  have f2 := h1.of side_inj (j := q.sd.toNat) (by omega) (by rw [e2]; congr 1; omega)
  have f5 := h2.of side_inj (j := q.ot.toNat) (by omega) (by rw [e5]; congr 1; omega)
  refine ⟨c0, c1, c3, c4, ?_⟩
  have e : (⟨smX a0, smX a1, k1, smX a3, smX a4, k2⟩ : Wy) = q := by
    obtain ⟨b0, b1, b2, b3, b4, b5⟩ := q
    simp only at d0 d1 d3 d4 f2 f5 hb
    simp only [Wy.mk.injEq]
    omega
  rw [e]; exact hq
-- contracts with open answers
def SmR (ws : List (List UInt8)) (n lo : Nat) (w : World) (v : Value) (ok : Bool) : Prop :=
  (ok = true ∧ ∃ g F, v = .slice (some ⟨g, 0, none⟩) n n ∧ MRow w g n F ∧ lo ≤ g ∧ (∀ i, i < n → -128 ≤ F i ∧ F i ≤ 127) ∧ (∀ vs, Smalls vs ws n → ∀ i, i < n → vs.getD i 0 = F i)) ∨ (ok = false ∧ ∀ vs, ¬ Smalls vs ws n)
theorem SmR.below {ws : List (List UInt8)} {n lo : Nat} {w w' : World} {v : Value} {ok : Bool} (h : SmR ws n lo w v ok) (g : Below w.heap.size w w') : SmR ws n lo w' v ok := by
  rcases h with ⟨h1, b, F, h2, h3, h4⟩ | h
  · exact .inl ⟨h1, b, F, h2, h3.below g, h4⟩
  · exact .inr h
def SmP2 (ws : List (List UInt8)) (n : Nat) (w : World) (e : Ending) (w' : World) : Prop := ∃ v ok, e = .returned (.tuple #[v, .bool ok]) ∧ SmR ws n w.heap.size w' v ok ∧ Below w.heap.size w w'
theorem parseSmalls2_any (b o c n count : Nat) (ws : List (List UInt8)) (w : World) (hn : ws.length = n) (hws : StAt w b o ws) (hb : b < w.heap.size) (hc : n ≤ c) (hlen : ∀ x ∈ ws, x.length ≤ 2000000) (hN : n ≤ 2000000) (hE : ErrAt w) :
    Calls Tryd.prog 95 #[.slice (some ⟨b, o, none⟩) n c, .int .i64 count] w (SmP2 ws count w) :=
  (parseSmalls_any b o c n count ws w hn hws hb hc hlen hN hE).mono fun e w' ⟨hb, h⟩ => by
    rcases h with ⟨g, F, h1, h2, h3, h4⟩ | ⟨h1, h2⟩
    · exact ⟨_, _, h1, .inl ⟨rfl, g, F, rfl, h2, h3, h4⟩, hb⟩
    · exact ⟨_, _, h1, .inr ⟨rfl, h2⟩, hb⟩
def NmR (W : Int → List UInt8) (N : Nat) (s : List UInt8) (k : Int) (ok : Bool) : Prop := (0 ≤ k ∧ k < N ∨ k = 0) ∧ ((ok = true ∧ s = W k) ∨ (ok = false ∧ ∀ j : Nat, j < N → s ≠ W j))
def NmP2 (W : Int → List UInt8) (N : Nat) (s : List UInt8) (w : World) (e : Ending) (w' : World) : Prop := ∃ k ok, e = .returned (.tuple #[.int .i8 k, .bool ok]) ∧ NmR W N s k ok ∧ w = w'
theorem NmP.two {W : Int → List UInt8} {N : Nat} {s : List UInt8} {w w' : World} {e : Ending} (h : NmP W N s w e w') : NmP2 W N s w e w' := by
  obtain ⟨h0, ⟨k, h1, h2, h3⟩ | ⟨h1, h2⟩⟩ := h
  · exact ⟨k, true, h2, ⟨.inl ⟨by omega, by omega⟩, .inl ⟨rfl, h3⟩⟩, h0⟩
  · exact ⟨0, false, h1, ⟨.inr rfl, .inr ⟨rfl, h2⟩⟩, h0⟩
theorem sideNamed2_any (s : List UInt8) (w : World) (hst : SideAt w) : Calls Tryd.prog 96 #[.string (bsT s)] w (NmP2 sideWL 4 s w) := (sideNamed_any s w hst).mono fun _ _ h => h.two
theorem six {ws : List (List UInt8)} (h : ws.length = 6) : ∃ a0 a1 a2 a3 a4 a5, ws = [a0, a1, a2, a3, a4, a5] := by
  match ws, h with
  | [a0, a1, a2, a3, a4, a5], _ => exact ⟨a0, a1, a2, a3, a4, a5, rfl⟩
end Go.Proofs.YtobhppkcgioheaaDoor
