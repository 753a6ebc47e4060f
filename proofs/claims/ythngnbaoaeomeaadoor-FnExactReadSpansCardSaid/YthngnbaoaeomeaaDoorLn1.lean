/- A range over a function whose iterator keeps its place in a cell of its own, which it turns between two rounds. -/
import Derived.Test.YthngnbaoaeomeaaDoorRd3
import Derived.Test.YthngnbaoaeomeaaDoorLn0
import Derived.RangeFuncBox
import Derived.RangeFuncNested
import Derived.RangeFuncBound
import Derived.RangeFuncCalls
import Derived.RangeFuncLeaves
import Derived.Shelf.Abstract
import Derived.Shelf.RegionOpen
import Derived.OwnWalkIn
import Derived.TacticsInMore
import Derived.LoopNIn
import Derived.LoopIn
import Derived.Outline
namespace Go.Proofs.YthngnbaoaeomeaaDoor
open Go.ChangeShapes Go.WideShapes Go.ChangeAt Go.RowKit Go.Shelf Go.Joins Go.Deep
set_option linter.unusedVariables false
set_option linter.unusedSimpArgs false

/-- the iterator's word: X 0, X 1, .. X (N - 1) come in this order; between two rounds it turns block Bx alone and lays blocks; a round that goes on leaves the blocks of S as they lay -/
def IterBoxS {α : Type} (F : Fence) (n : Nat) (P : Program) (g : Nat) (lb : Array Value) (encs : α → Array Value) (S : Nat → Prop) (Bx : Nat) (X : Nat → α) (N : Nat) (w : World) : Prop :=
  ∀ (l : Nat) (J : Nat → World → Prop) (Jx : World → Prop) (W : World), (∀ j, S j → W.heap[j]? = w.heap[j]?) →
    (∀ k A B, J k A → A.grownBy B (some Bx) → J k B) →
    (∀ k A, J k A → k < N → YieldAt F (n - 1) P l (encs (X k)) A fun e B => (e = .returned (.bool true) ∧ J (k + 1) B ∧ ∀ j, S j → B.heap[j]? = A.heap[j]?) ∨ (e = .returned (.bool false) ∧ Jx B)) →
    J 0 W →
    CallsIn F n P g (#[.func (.yield l) #[] #[]] ++ lb) W fun e B => (∃ v, e = .returned v) ∧ (J N B ∨ Jx B)
/-- how a round may end -/
def boxPostS (b : Nat) (S : Nat → Prop) (I Ix : World → Prop) (A : World) : Exit → Act → World → Prop
  | .normal, _, B => KeepsFrom b A B ∧ (∀ j, S j → B.heap[j]? = A.heap[j]?) ∧ I B
  | .ret, _, B => KeepsFrom b A B ∧ Ix B
  | _, _, _ => False
theorem wpIn_rangeBoxS {F : Fence} {n : Nat} {P : Program} {α : Type} {g : Operand} {ps : Array Tmp} {assign body : Code} {Q : Exit → Act → World → Prop} {a : Act} {w : World}
    (hro : F.round = none) (h1 : 1 ≤ n) {gf : Nat} {lb : Array Value} (hg : a.eval g = .func (.func gf) #[] lb) (hFg : F.fn gf) (eg : ∀ args w, (callFunc gf args).run P w = .ok (.enter gf args) w)
    {encs : α → Array Value} {S : Nat → Prop} {Bx N : Nat} {X : Nat → α} (hseq : IterBoxS F (n - 1) P gf lb encs S Bx X N w) (hS : ∀ j, S j → j < w.heap.size) (hBx : Bx < w.heap.size) (hps : ∀ x, (encs x).size = ps.size)
    (I : Nat → World → Prop) (Ix : World → Prop) (hI : OwnFrom w.heap.size I) (hIx : OwnFrom w.heap.size (fun (_ : Unit) W => Ix W)) (hIb : ∀ k A B, I k A → A.grownBy B (some Bx) → I k B) (h0 : I 0 w)
    (a₁ : α → Act)
    (hassign : ∀ (l : Nat) (x : α) (W : World) (K : Act → World → Prop), K (a₁ x) W → assign.wpIn (F.inRound l) (n - 1 - 1) P (Exit.then K (fun _ _ _ => False)) { tmps := (ps.zip (encs x)).foldl (fun t (p, v) => t.setIfInBounds p v) a.tmps, defers := [] } W)
    (hbody : ∀ (l k : Nat) (W : World), w.heap.size ≤ l → I k W → k < N → w.heap.size + 2 ≤ W.heap.size → body.wpIn (F.inRound l) (n - 1 - 1) P (boxPostS w.heap.size S (I (k + 1)) Ix W) (a₁ (X k)) W)
    (hdone : ∀ (D : Nat) (W : World), w.heap.size ≤ D → I N W → W.heap[D]? = some (.deferred (some [])) → Q .normal { a with defers := { target := .collected D, args := #[] } :: a.defers } W)
    (hstop : ∀ (D : Nat) (W : World), w.heap.size ≤ D → Ix W → W.heap[D]? = some (.deferred (some [])) → Code.ret.wpIn F n P Q { a with defers := { target := .collected D, args := #[] } :: a.defers } W) :
    (Code.rangeFunc g ps assign body).wpIn F n P Q a w := by
  refine wpIn_rangeFunc (fun fn hfn => ?_)
  rw [hro]
  obtain ⟨L, hL⟩ : ∃ L, w.heap.size + 1 = L := ⟨_, rfl⟩
  obtain ⟨D, hD⟩ : ∃ D, w.heap.size = D := ⟨_, rfl⟩
  obtain ⟨rc, hrc⟩ : ∃ rc : LoopState → Option Code → Loop, rc = fun st pe => { state := st, pending := pe, fn, tmps := a.tmps, params := ps, assign, body, defers := w.heap.size } := ⟨_, rfl⟩
  obtain ⟨V, hV⟩ : ∃ V, (w.alloc (.deferred (some []))).alloc (.loop (rc .ready none)) = V := ⟨_, rfl⟩
  have vL : V.heap[L]? = some (.loop (rc .ready none)) := by
    rw [← hV, ← hL]; have h := World.alloc_heap_new (w.alloc (.deferred (some []))) (.loop (rc .ready none)); rwa [World.size_alloc] at h
  have vD : V.heap[D]? = some (.deferred (some [])) := by
    rw [← hV, ← hD]; exact (Below.heap_alloc _ _ _ (by simp)).trans (World.alloc_heap_new w _)
  have vB : ∀ j, S j → V.heap[j]? = w.heap[j]? := fun j hj => by
    have := hS j hj
    rw [← hV]; exact (Below.heap_alloc _ _ _ (by simp; omega)).trans (Below.heap_alloc _ _ _ this)
  have vI : I 0 V := by rw [← hV]; exact hI.alloc _ (hI.alloc _ h0)
  have hLD : w.heap.size ≤ L ∧ w.heap.size ≤ D ∧ L ≠ D ∧ Bx ≠ L ∧ Bx ≠ D := by omega
  -- what the machine turns of its own book-keeping
  have turnI : ∀ {k A st pe} (o : Obj), I k A → A.heap[L]? = some (.loop (rc st pe)) → I k (A.putObj L o) := fun o h hl => hI.putObj o h hLD.1 hl rfl
  have turnX : ∀ {A st pe} (o : Obj), Ix A → A.heap[L]? = some (.loop (rc st pe)) → Ix (A.putObj L o) := fun o h hl => hIx.putObj (s := ()) o h hLD.1 hl rfl
  have puts : ∀ {A : World} {st pe} (st' : LoopState) (pe' : Option Code), A.heap[L]? = some (.loop (rc st pe)) → A.heap[D]? = some (.deferred (some [])) →
      (A.putObj L (.loop (rc st' pe'))).heap[L]? = some (.loop (rc st' pe')) ∧ (A.putObj L (.loop (rc st' pe'))).heap[D]? = some (.deferred (some [])) ∧ (∀ j, S j → (A.putObj L (.loop (rc st' pe'))).heap[j]? = A.heap[j]?) := fun st' pe' hl hd =>
    ⟨World.putObj_heap_same (Array.getElem?_eq_some_iff.1 hl).1, (World.putObj_heap_other (Ne.symm hLD.2.2.1)).trans hd, fun j hj => World.putObj_heap_other (by have := hS j hj; omega)⟩
  refine ⟨L, [{ target := .collected D, args := #[] }], V, { target := .fn (.func gf) lb, args := #[.func (.yield L) #[] #[]] }, V, gf, #[.func (.yield L) #[] #[]] ++ lb, V, ?_, ?_, ?_, ?_, fun _ => h1, ?_⟩
  · rw [← hV, hrc, ← hL, ← hD]; exact run_enterLoop_outer _ _ _ _ _
  · simp only [resolve, hg]; simp [go_sem]
  · intro f' hf'; simp [Target.leads] at hf'; subst hf'; exact hFg
  · simp [invoke, go_sem, eg]
  · refine (hseq L (fun k W => I k W ∧ W.heap[L]? = some (.loop (rc .ready none)) ∧ W.heap[D]? = some (.deferred (some []))) (fun W => Ix W ∧ W.heap[L]? = some (.loop (rc .done (some .ret))) ∧ W.heap[D]? = some (.deferred (some []))) V vB ?turn ?round ⟨vI, vL, vD⟩).mono ?behind
    case turn =>
      rintro k A B ⟨hi, hl, hd⟩ hgr
      exact ⟨hIb k A B hi hgr, (hgr.block L (Array.getElem?_eq_some_iff.1 hl).1 (fun e => hLD.2.2.2.1 (by cases e; rfl))).trans hl, (hgr.block D (Array.getElem?_eq_some_iff.1 hd).1 (fun e => hLD.2.2.2.2 (by cases e; rfl))).trans hd⟩
    case round =>
      rintro k A ⟨hi, hl, hd⟩ hk
      have hlt := (Array.getElem?_eq_some_iff.1 hl).1
      have hy := run_yield (P := P) (args := encs (X k)) hl (by rw [hrc]; exact hps _)
      rw [hrc] at hy
      refine ⟨fn, _, assign, body, hy, roundIn_of_wpIn hfn (hassign L (X k) A _ ?_)⟩
      clear hy
      refine ⟨_, run_beginRound hl (by rw [hrc]), ?_⟩
      have e1 : ({ rc .ready none with state := .busy } : Loop) = rc .busy none := by rw [hrc]
      rw [e1]
      obtain ⟨bl, bd, bB⟩ := puts .busy none hl hd
      refine wpIn_mono (hbody L k _ hLD.1 (turnI _ hi hl) hk (by rw [World.putObj_size]; omega)) ?_
      rintro e a3 B hp
      cases e with
      | normal =>
        obtain ⟨hkf, hB, hi3⟩ := hp
        have bl3 := hkf.same L _ hLD.1 bl rfl
        have bd3 := hkf.same D _ hLD.2.1 bd rfl
        obtain ⟨cl, cd, cB⟩ := puts .ready none bl3 bd3
        have hr := run_endRound (P := P) none (by rw [hrc] at bl3; exact bl3)
        refine ⟨_, _, hr, .inl ⟨rfl, ⟨?_, ?_, ?_⟩, ?_⟩⟩
        · have := turnI (.loop (rc .ready none)) hi3 bl3; rw [hrc] at this; exact this
        · rw [hrc] at cl ⊢; exact cl
        · rw [hrc] at cd; exact cd
        · intro j hj
          have c1 := cB j hj
          rw [hrc] at c1
          exact c1.trans ((hB j hj).trans (bB j hj))
      | ret =>
        obtain ⟨hkf, hi3⟩ := hp
        have bl3 := hkf.same L _ hLD.1 bl rfl
        have bd3 := hkf.same D _ hLD.2.1 bd rfl
        obtain ⟨cl, cd, cB⟩ := puts .done (some .ret) bl3 bd3
        have hr := run_endRound (P := P) (some .ret) (by rw [hrc] at bl3; exact bl3)
        refine ⟨_, _, hr, .inr ⟨rfl, ?_, ?_, ?_⟩⟩
        · have := turnX (.loop (rc .done (some .ret))) hi3 bl3; rw [hrc] at this; exact this
        · rw [hrc] at cl ⊢; exact cl
        · rw [hrc] at cd; exact cd
      | exit id => exact hp.elim
      | goto t => exact hp.elim
      | panic ch => exact hp.elim
      | outgrown => exact hp.elim
    case behind =>
      rintro e W2 ⟨⟨v, rfl⟩, (⟨hi, hl, hd⟩ | ⟨hi, hl, hd⟩)⟩
      · have hr := run_endLoop (P := P) hl (by rw [hrc]; simp)
        have hh := hdone D _ hLD.2.1 (turnI (.loop { rc .ready none with state := .exhausted }) hi hl) ((World.putObj_heap_other (Ne.symm hLD.2.2.1)).trans hd)
        rw [hrc] at hr hh
        exact ⟨none, _, hr, hh⟩
      · have hr := run_endLoop (P := P) hl (by rw [hrc]; simp)
        have hh := hstop D _ hLD.2.1 (turnX (.loop { rc .done (some .ret) with state := .exhausted }) hi hl) ((World.putObj_heap_other (Ne.symm hLD.2.2.1)).trans hd)
        rw [hrc] at hr hh
        exact ⟨some .ret, _, hr, hh⟩
/-- the iterator's word where the rounds keep Bx alone -/
def IterBox {α : Type} (F : Fence) (n : Nat) (P : Program) (g : Nat) (lb : Array Value) (encs : α → Array Value) (Bx : Nat) (X : Nat → α) (N : Nat) (w : World) : Prop :=
  ∀ (l : Nat) (J : Nat → World → Prop) (Jx : World → Prop) (W : World), W.heap[Bx]? = w.heap[Bx]? →
    (∀ k A B, J k A → A.grownBy B (some Bx) → J k B) →
    (∀ k A, J k A → k < N → YieldAt F (n - 1) P l (encs (X k)) A fun e B => (e = .returned (.bool true) ∧ J (k + 1) B ∧ B.heap[Bx]? = A.heap[Bx]?) ∨ (e = .returned (.bool false) ∧ Jx B)) →
    J 0 W →
    CallsIn F n P g (#[.func (.yield l) #[] #[]] ++ lb) W fun e B => (∃ v, e = .returned v) ∧ (J N B ∨ Jx B)
def boxPost (b Bx : Nat) (I Ix : World → Prop) (A : World) : Exit → Act → World → Prop
  | .normal, _, B => KeepsFrom b A B ∧ B.heap[Bx]? = A.heap[Bx]? ∧ I B
  | .ret, _, B => KeepsFrom b A B ∧ Ix B
  | _, _, _ => False
theorem IterBox.toS {F : Fence} {n : Nat} {P : Program} {α : Type} {g : Nat} {lb : Array Value} {encs : α → Array Value} {Bx : Nat} {X : Nat → α} {N : Nat} {w : World} (h : IterBox F n P g lb encs Bx X N w) :
    IterBoxS F n P g lb encs (fun j => j = Bx) Bx X N w := fun l J Jx W hW hJ hY h0 =>
  h l J Jx W (hW Bx rfl) hJ (fun k A hk hN => (hY k A hk hN).mono fun e B hh => by
    rcases hh with ⟨a, b, c⟩ | hh
    · exact .inl ⟨a, b, c Bx rfl⟩
    · exact .inr hh) h0
theorem wpIn_rangeBox {F : Fence} {n : Nat} {P : Program} {α : Type} {g : Operand} {ps : Array Tmp} {assign body : Code} {Q : Exit → Act → World → Prop} {a : Act} {w : World}
    (hro : F.round = none) (h1 : 1 ≤ n) {gf : Nat} {lb : Array Value} (hg : a.eval g = .func (.func gf) #[] lb) (hFg : F.fn gf) (eg : ∀ args w, (callFunc gf args).run P w = .ok (.enter gf args) w)
    {encs : α → Array Value} {Bx N : Nat} {X : Nat → α} (hseq : IterBox F (n - 1) P gf lb encs Bx X N w) (hBx : Bx < w.heap.size) (hps : ∀ x, (encs x).size = ps.size)
    (I : Nat → World → Prop) (Ix : World → Prop) (hI : OwnFrom w.heap.size I) (hIx : OwnFrom w.heap.size (fun (_ : Unit) W => Ix W)) (hIb : ∀ k A B, I k A → A.grownBy B (some Bx) → I k B) (h0 : I 0 w)
    (a₁ : α → Act)
    (hassign : ∀ (l : Nat) (x : α) (W : World) (K : Act → World → Prop), K (a₁ x) W → assign.wpIn (F.inRound l) (n - 1 - 1) P (Exit.then K (fun _ _ _ => False)) { tmps := (ps.zip (encs x)).foldl (fun t (p, v) => t.setIfInBounds p v) a.tmps, defers := [] } W)
    (hbody : ∀ (l k : Nat) (W : World), w.heap.size ≤ l → I k W → k < N → w.heap.size + 2 ≤ W.heap.size → body.wpIn (F.inRound l) (n - 1 - 1) P (boxPost w.heap.size Bx (I (k + 1)) Ix W) (a₁ (X k)) W)
    (hdone : ∀ (D : Nat) (W : World), w.heap.size ≤ D → I N W → W.heap[D]? = some (.deferred (some [])) → Q .normal { a with defers := { target := .collected D, args := #[] } :: a.defers } W)
    (hstop : ∀ (D : Nat) (W : World), w.heap.size ≤ D → Ix W → W.heap[D]? = some (.deferred (some [])) → Code.ret.wpIn F n P Q { a with defers := { target := .collected D, args := #[] } :: a.defers } W) :
    (Code.rangeFunc g ps assign body).wpIn F n P Q a w :=
  wpIn_rangeBoxS hro h1 hg hFg eg hseq.toS (fun j hj => by rw [hj]; exact hBx) hBx hps I Ix hI hIx hIb h0 a₁ hassign
    (fun l k W h1 h2 h3 h4 => wpIn_mono (hbody l k W h1 h2 h3 h4) fun e a B hp => by
      cases e with
      | normal => exact ⟨hp.1, fun j hj => by rw [hj]; exact hp.2.1, hp.2.2⟩
      | ret => exact hp
      | exit id => exact hp.elim
      | goto t => exact hp.elim
      | panic ch => exact hp.elim
      | outgrown => exact hp.elim) hdone hstop
end Go.Proofs.YthngnbaoaeomeaaDoor
