/- Contracts with open answers; a region that draws its order. -/
import Derived.Test.YthngnbaoaeomeaaDoorRd3
import Derived.OrdersHeld
namespace Go.Proofs.YthngnbaoaeomeaaDoor
open Go.ChangeShapes Go.WideShapes Go.ChangeAt Go.RowKit Go.Joins Go.Deep
set_option linter.unusedVariables false
set_option linter.unusedSimpArgs false
theorem regionW_of_HR {id : Nat} {P : Program} {ops : Array Oper} {Q : Exit → Act → World → Prop} {a : Act} {w : World} (S : World → Prop) (hm : P.follows .mixedOrders = true)
    (hS : S w.drew) (h : S w.drew → wpAnyH P .any ops (fun e a w => e = .normal ∧ Q e a w) S ops.size (Array.replicate ops.size false) a w.drew) : (Code.region id ops true).wp P Q a w :=
  Code.wp_mono (fun _ _ _ h => h.2) (wp_region_held hm (h hS))

theorem side_eq {a b : Int} (ha : 0 ≤ a ∧ a ≤ 3) (hb : 0 ≤ b ∧ b ≤ 3) (h : sideWL a = sideWL b) : a = b := by
  obtain ⟨a, rfl⟩ : ∃ n : Nat, a = n := ⟨a.toNat, by omega⟩
  obtain ⟨b, rfl⟩ : ∃ n : Nat, b = n := ⟨b.toNat, by omega⟩
  have := side_inj a b (by omega) (by omega) h
  omega
-- contracts with open answers
def SmR (ws : List (List UInt8)) (n lo : Nat) (w : World) (v : Value) (ok : Bool) : Prop :=
  (ok = true ∧ ∃ g F, v = .slice (some ⟨g, 0, none⟩) n n ∧ MRow w g n F ∧ lo ≤ g ∧ (∀ i, i < n → -128 ≤ F i ∧ F i ≤ 127) ∧ (∀ vs, Smalls vs ws n → ∀ i, i < n → vs.getD i 0 = F i)) ∨ (ok = false ∧ ∀ vs, ¬ Smalls vs ws n)
theorem SmR.below {ws : List (List UInt8)} {n lo : Nat} {w w' : World} {v : Value} {ok : Bool} (h : SmR ws n lo w v ok) (g : Below w.heap.size w w') : SmR ws n lo w' v ok := by
  rcases h with ⟨h1, b, F, h2, h3, h4⟩ | h
  · exact .inl ⟨h1, b, F, h2, h3.below g, h4⟩
  · exact .inr h
def SmP2 (ws : List (List UInt8)) (n : Nat) (w : World) (e : Ending) (w' : World) : Prop := ∃ v ok, e = .returned (.tuple #[v, .bool ok]) ∧ SmR ws n w.heap.size w' v ok ∧ Below w.heap.size w w'
theorem parseSmalls2_any (b o c n count : Nat) (ws : List (List UInt8)) (w : World) (hn : ws.length = n) (hws : StAt w b o ws) (hb : b < w.heap.size) (hc : n ≤ c) (hlen : ∀ x ∈ ws, x.length ≤ 2000000) (hN : n ≤ 2000000) (hE : ErrAt w) :
    Calls Tryd.prog 60 #[.slice (some ⟨b, o, none⟩) n c, .int .i64 count] w (SmP2 ws count w) :=
  (parseSmalls_any b o c n count ws w hn hws hb hc hlen hN hE).mono fun e w' ⟨hb, h⟩ => by
    rcases h with ⟨g, F, h1, h2, h3, h4⟩ | ⟨h1, h2⟩
    · exact ⟨_, _, h1, .inl ⟨rfl, g, F, rfl, h2, h3, h4⟩, hb⟩
    · exact ⟨_, _, h1, .inr ⟨rfl, h2⟩, hb⟩
def NmR (W : Int → List UInt8) (N : Nat) (s : List UInt8) (k : Int) (ok : Bool) : Prop := (0 ≤ k ∧ k < N ∨ k = 0) ∧ ((ok = true ∧ s = W k) ∨ (ok = false ∧ ∀ j : Nat, j < N → s ≠ W j))
def NmP2 (W : Int → List UInt8) (N : Nat) (s : List UInt8) (w : World) (e : Ending) (w' : World) : Prop := ∃ k ok, e = .returned (.tuple #[.int .i8 k, .bool ok]) ∧ NmR W N s k ok ∧ w = w'
theorem NmP.two {W : Int → List UInt8} {N : Nat} {s : List UInt8} {w w' : World} {e : Ending} (h : NmP W N s w e w') : NmP2 W N s w e w' := by
  obtain ⟨h0, ⟨k, h1, h2, h3⟩ | ⟨h1, h2⟩⟩ := h
  · exact ⟨k, true, h2, ⟨.inl ⟨by omega, by omega⟩, .inl ⟨rfl, h3⟩⟩, h0⟩
  · exact ⟨0, false, h1, ⟨.inr rfl, .inr ⟨rfl, h2⟩⟩, h0⟩
theorem sideNamed2_any (s : List UInt8) (w : World) (hst : SideAt w) : Calls Tryd.prog 96 #[.string (bsT s)] w (NmP2 sideWL 4 s w) := (sideNamed_any s w hst).mono fun _ _ h => h.two
theorem eqL {S T : ByteArray} {a b : List UInt8} (hS : bsT a = S) (hT : bsT b = T) (h : a = b) : S.toList = T.toList ∧ (S.toList == T.toList) = true ∧ (!(S.toList == T.toList)) = false := by
  have e : S.toList = T.toList := by rw [← hS, ← hT, h]
  have e2 : (S.toList == T.toList) = true := by rw [e]; exact beq_self_eq_true _
  exact ⟨e, e2, by rw [e2]; rfl⟩
theorem neL {S T : ByteArray} {a b : List UInt8} (hS : bsT a = S) (hT : bsT b = T) (h : a ≠ b) : ¬ S.toList = T.toList ∧ (S.toList == T.toList) = false ∧ (!(S.toList == T.toList)) = true := by
  have e : ¬ S.toList = T.toList := by rw [← hS, ← hT, toL_bsT, toL_bsT]; exact h
  have e2 : (S.toList == T.toList) = false := beq_eq_false_iff_ne.2 e
  exact ⟨e, e2, by rw [e2]; rfl⟩
end Go.Proofs.YthngnbaoaeomeaaDoor
