/- Several texts in one: Flat, Base, C1a, C1b, C1c, Bd, EqB, ArgB, Ce, Find. -/
import Derived.WalkKit
import Derived.ProofKit
import Derived.OpenShut
import Derived.ReadAgain
import Derived.Deep.Slices
import Derived.ChangeOld
import Derived.ChangeReads
import Derived.Test.YthngnbaoaeomeaaDoorRows
import Derived.Lib.Hide
import Derived.Below
import Derived.Deep.QuietTactic
import Derived.BigQuiet
import Derived.Outline
import Derived.OwnWalk
import Derived.Deep.OwnRows
import Derived.StillTailTactics
import Derived.Lib.SmallJoins
/- Reading of types that are made of integers alone (structs and arrays of them): their cells are integers of the kinds told. No program text. -/
namespace Go.Proofs.YthngnbaoaeomeaaDoor
open Go.ChangeShapes Go.WideShapes Go.ChangeAt Go.RowKit

def Ints : List Value → List IntKind → Prop
  | [], [] => True
  | v :: vs, k :: ks => (∃ n, v = .int k n ∧ (Lit.int k n).wf = true) ∧ Ints vs ks
  | _, _ => False

theorem Ints.append : ∀ {a b : List Value} {k l : List IntKind}, Ints a k → Ints b l → Ints (a ++ b) (k ++ l)
  | [], _, [], _, _, h => h
  | _ :: _, _, _ :: _, _, h, g => ⟨h.1, Ints.append h.2 g⟩
  | [], _, _ :: _, _, h, _ => h.elim
  | _ :: _, _, [], _, h, _ => h.elim

theorem Ints.length : ∀ {a : List Value} {k : List IntKind}, Ints a k → a.length = k.length
  | [], [], _ => rfl
  | _ :: _, _ :: _, h => by simp [Ints.length h.2]
  | [], _ :: _, h => h.elim
  | _ :: _, [], h => h.elim

def flatFields (fl : TypeId → Option (List IntKind)) : Nat → List Field → Option (List IntKind)
  | _, [] => some []
  | o, f :: fs => if f.offset = o then (fl f.type).bind fun a => (flatFields fl (o + a.length) fs).map fun b => a ++ b else none

def flat (P : Program) : Nat → TypeId → Option (List IntKind)
  | 0, _ => none
  | n + 1, t =>
    let r := match P.underlying t with
      | some (.int k) => some [k]
      | some (.array m e) => (flat P n e).map fun a => (List.replicate m a).flatten
      | some (.struct fs) => flatFields (flat P n) 0 fs.toList
      | _ => none
    r.bind fun ks => if ks.length = P.cellsOf t then some ks else none

theorem ints_fields {rd : Nat → TypeId → List Value → Prop} {P : Program} {fl : TypeId → Option (List IntKind)} {m : Nat}
    (hfl : ∀ t ks cs, fl t = some ks → rd m t cs → Ints cs ks ∧ ks.length = P.cellsOf t) (_ : True) :
    ∀ (fs : List Field) (o : Nat) (ks : List IntKind) (cs : List Value), flatFields fl o fs = some ks → cs.length = o + ks.length →
      (∀ f ∈ fs, rd m f.type ((cs.drop f.offset).take (P.cellsOf f.type))) → Ints (cs.drop o) ks := by
  intro fs
  induction fs with
  | nil =>
    intro o ks cs h hl _
    simp only [flatFields, Option.some.injEq] at h
    subst h
    rw [List.drop_of_length_le (by simp at hl; omega)]
    trivial
  | cons f fs ih =>
    intro o ks cs h hl hr
    simp only [flatFields] at h
    split at h
    · rename_i ho
      obtain ⟨a, ha, h⟩ := Option.bind_eq_some_iff.1 h
      obtain ⟨b, hb, rfl⟩ := Option.map_eq_some_iff.1 h
      have h1 := hr f (List.mem_cons_self ..)
      obtain ⟨h2, h3⟩ := hfl _ _ _ ha h1
      rw [List.length_append] at hl
      have h4 := ih (o + a.length) b cs hb (by omega) (fun g hg => hr g (List.mem_cons_of_mem _ hg))
      have e : cs.drop o = (cs.drop o).take (P.cellsOf f.type) ++ cs.drop (o + a.length) := by
        rw [← h3]
        conv => lhs; rw [← List.take_append_drop a.length (cs.drop o)]
        rw [List.drop_drop]
      rw [e]
      rw [ho] at h2
      exact h2.append h4
    · cases h

theorem ints_array {rd : List Value → Prop} {c : Nat} {a : List IntKind} (hrd : ∀ cs, rd cs → Ints cs a) (_ : a.length = c) :
    ∀ (m i : Nat) (cs : List Value), cs.length = (i + m) * c → (∀ j, i ≤ j → j < i + m → rd ((cs.drop (j * c)).take c)) → Ints (cs.drop (i * c)) (List.replicate m a).flatten := by
  intro m
  induction m with
  | zero =>
    intro i cs hl _
    rw [List.drop_of_length_le (by simp at hl; omega)]
    trivial
  | succ m ih =>
    intro i cs hl hr
    have h1 := hrd _ (hr i (Nat.le_refl _) (by omega))
    have h2 := ih (i + 1) cs (by rw [hl]; congr 1; omega) (fun j hj hj2 => hr j (by omega) (by omega))
    have e : cs.drop (i * c) = (cs.drop (i * c)).take c ++ cs.drop ((i + 1) * c) := by
      conv => lhs; rw [← List.take_append_drop c (cs.drop (i * c))]
      rw [List.drop_drop, Nat.succ_mul]
    rw [e, List.replicate_succ, List.flatten_cons]
    exact h1.append h2

theorem flat_len (P : Program) : ∀ (n : Nat) (t : TypeId) (ks : List IntKind), flat P n t = some ks → ks.length = P.cellsOf t := by
  intro n
  cases n with
  | zero => intro t ks h; simp [flat] at h
  | succ n =>
    intro t ks h
    simp only [flat] at h
    obtain ⟨r, _, h⟩ := Option.bind_eq_some_iff.1 h
    split at h
    · simp only [Option.some.injEq] at h; subst h; assumption
    · cases h

theorem flat_ints {H : Type} {enc : TypeId × Value → H} {P : Program} {w : World} {base : Nat} {spare : Nat → Bool} {held : Bool} :
    ∀ (n : Nat) (t : TypeId) (ks : List IntKind) (fuel : Nat) (cs : List Value) (x : DataW H × List MemPlace), flat P n t = some ks → DataW.trod enc P w base spare held fuel t cs = some x → Ints cs ks := by
  intro n
  induction n with
  | zero => intro t ks fuel cs x h; simp [flat] at h
  | succ n ih =>
    intro t ks fuel cs x h hx
    have hlen := flat_len P (n + 1) t ks h
    simp only [flat] at h
    obtain ⟨r, hr, h⟩ := Option.bind_eq_some_iff.1 h
    split at h
    · simp only [Option.some.injEq] at h
      subst h
      split at hr
      · rename_i k hk
        simp only [Option.some.injEq] at hr
        subst hr
        obtain ⟨m, rfl, _, hw⟩ := DataW.trod_int hk hx
        exact ⟨⟨m, rfl, hw⟩, trivial⟩
      · rename_i m e hk
        obtain ⟨a, ha, rfl⟩ := Option.map_eq_some_iff.1 hr
        obtain ⟨xs, fu, _, _, hcl, hxl, hg⟩ := DataW.trod_array hk hx
        have hal := flat_len P n e a ha
        have hcl2 : cs.length = (0 + m) * P.cellsOf e := by
          rw [hcl, ← hlen, ← hal]; simp
        have := ints_array (rd := fun c => ∃ y, DataW.trod enc P w base spare held fu e c = some y) (hrd := fun c ⟨y, hy⟩ => ih e a fu c y ha hy) hal m 0 cs hcl2
          (fun j _ hj => ⟨xs[j]'(by omega), by rw [hg j (by omega)]; exact List.getElem?_eq_getElem (by omega)⟩)
        simpa using this
      · rename_i fs hk
        obtain ⟨xs, fu, _, _, hcl, hxl, hg⟩ := DataW.trod_struct hk hx
        have := ints_fields (P := P) (rd := fun q t c => ∃ y, DataW.trod enc P w base spare held q t c = some y) (fl := flat P n) (m := fu)
          (fun t ks c hf ⟨y, hy⟩ => ⟨ih t ks fu c y hf hy, flat_len P n t ks hf⟩) trivial fs.toList 0 r cs hr (by rw [hcl, ← hlen]; simp)
          (fun f hf => by
            obtain ⟨i, hi, rfl⟩ := List.getElem_of_mem hf
            have hi2 : i < fs.size := by simpa using hi
            exact ⟨xs[i]'(by omega), by rw [hg i _ (by simp [hi2])]; exact List.getElem?_eq_getElem (by omega)⟩)
        simpa using this
      · cases hr
    · cases h

def isAggT (P : Program) (t : TypeId) : Bool := match P.underlying t with | some (.struct _) | some (.array _ _) => true | _ => false

/-- A value that is read, of a type of two integers or more, is their row. -/
theorem open_flat {H : Type} {enc : TypeId × Value → H} {P : Program} {w w2 : World} {r : Reach} {b0 base : Nat} {spare : Nat → Bool} {held : Bool} {t : TypeId} {ks : List IntKind} {v : Value} {d : DataW H} {p : List MemPlace} (n : Nat)
    (hf : flat P n t = some ks) (hs : isAggT P t = true)
    (hv : Value.okWide P w2 r b0 t v) (h : DataW.Trod enc P w base spare held t v d p) : ∃ cs : Array Value, v = .agg cs ∧ Ints cs.toList ks := by
  have hv' : ∃ cs : Array Value, v = .agg cs := by
    unfold Value.okWide at hv
    split at hv
    · obtain ⟨cs, rfl, _⟩ := hv; exact ⟨cs, rfl⟩
    · obtain ⟨cs, rfl, _⟩ := hv; exact ⟨cs, rfl⟩
    · rename_i h1 h2
      unfold isAggT at hs
      split at hs
      · exact absurd ‹_› (h1 _)
      · exact absurd ‹_› (h2 _ _)
      · cases hs
  obtain ⟨cs, rfl⟩ := hv'
  obtain ⟨fuel, hx⟩ := h
  exact ⟨cs, rfl, flat_ints n t ks fuel _ _ hf hx⟩

theorem ints_two {cs : Array Value} {k0 k1 : IntKind} (h : Ints cs.toList [k0, k1]) : ∃ a b : Int, cs = #[.int k0 a, .int k1 b] ∧ (Lit.int k0 a).wf = true ∧ (Lit.int k1 b).wf = true := by
  obtain ⟨cs⟩ := cs
  match cs, h with
  | [_, _], ⟨⟨x, rfl, hx⟩, ⟨y, rfl, hy⟩, _⟩ => exact ⟨x, y, rfl, hx, hy⟩
theorem ints_three {cs : Array Value} {k0 k1 k2 : IntKind} (h : Ints cs.toList [k0, k1, k2]) : ∃ a b c : Int, cs = #[.int k0 a, .int k1 b, .int k2 c] ∧ (Lit.int k0 a).wf = true ∧ (Lit.int k1 b).wf = true ∧ (Lit.int k2 c).wf = true := by
  obtain ⟨cs⟩ := cs
  match cs, h with
  | [_, _, _], ⟨⟨x, rfl, hx⟩, ⟨y, rfl, hy⟩, ⟨z, rfl, hz⟩, _⟩ => exact ⟨x, y, z, rfl, hx, hy, hz⟩
theorem ints_five {cs : Array Value} {k0 k1 k2 k3 k4 : IntKind} (h : Ints cs.toList [k0, k1, k2, k3, k4]) :
    ∃ a b c d e : Int, cs = #[.int k0 a, .int k1 b, .int k2 c, .int k3 d, .int k4 e] ∧ (Lit.int k0 a).wf = true ∧ (Lit.int k1 b).wf = true ∧ (Lit.int k2 c).wf = true ∧ (Lit.int k3 d).wf = true ∧ (Lit.int k4 e).wf = true := by
  obtain ⟨cs⟩ := cs
  match cs, h with
  | [_, _, _, _, _], ⟨⟨x, rfl, hx⟩, ⟨y, rfl, hy⟩, ⟨z, rfl, hz⟩, ⟨u, rfl, hu⟩, ⟨v, rfl, hv⟩, _⟩ => exact ⟨x, y, z, u, v, rfl, hx, hy, hz, hu, hv⟩

/-- that a number is one of an int8 -/
def i8 (n : Int) : Prop := -128 ≤ n ∧ n ≤ 127
theorem i8_of {n : Int} (h : (Lit.int .i8 n).wf = true) : i8 n := bounds_i8 h

/-- a piece: the numbers of its cells -/
structure Pc where
  x : Int
  y : Int
  kind : Int
  turn : Int
  delay : Int
deriving DecidableEq
def Pc.cells (p : Pc) : List Value := [.int .i8 p.x, .int .i8 p.y, .int .i8 p.kind, .int .i8 p.turn, .int .i8 p.delay]
def Pc.in8 (p : Pc) : Prop := i8 p.x ∧ i8 p.y ∧ i8 p.kind ∧ i8 p.turn ∧ i8 p.delay
theorem open_cell {H : Type} {enc : TypeId × Value → H} {P : Program} {w w2 : World} {r : Reach} {b0 base : Nat} {spare : Nat → Bool} {held : Bool} {t : TypeId} {v : Value} {d : DataW H} {p : List MemPlace} {n : Nat}
    (hf : flat P n t = some [.i8, .i8]) (hs : isAggT P t = true) (hv : Value.okWide P w2 r b0 t v) (h : DataW.Trod enc P w base spare held t v d p) :
    ∃ x y : Int, v = .agg #[.int .i8 x, .int .i8 y] ∧ i8 x ∧ i8 y := by
  obtain ⟨cs, rfl, hi⟩ := open_flat n hf hs hv h
  obtain ⟨x, y, rfl, hx, hy⟩ := ints_two hi
  exact ⟨x, y, rfl, i8_of hx, i8_of hy⟩
theorem open_piece {H : Type} {enc : TypeId × Value → H} {P : Program} {w w2 : World} {r : Reach} {b0 base : Nat} {spare : Nat → Bool} {held : Bool} {t : TypeId} {v : Value} {d : DataW H} {p : List MemPlace} {n : Nat}
    (hf : flat P n t = some [.i8, .i8, .i8, .i8, .i8]) (hs : isAggT P t = true) (hv : Value.okWide P w2 r b0 t v) (h : DataW.Trod enc P w base spare held t v d p) :
    ∃ p : Pc, v = .agg #[.int .i8 p.x, .int .i8 p.y, .int .i8 p.kind, .int .i8 p.turn, .int .i8 p.delay] ∧ p.in8 := by
  obtain ⟨cs, rfl, hi⟩ := open_flat n hf hs hv h
  obtain ⟨x, y, z, t, u, rfl, hx, hy, hz, ht, hu⟩ := ints_five hi
  exact ⟨⟨x, y, z, t, u⟩, rfl, i8_of hx, i8_of hy, i8_of hz, i8_of ht, i8_of hu⟩

/-- An argument reads behind the call as it did, if nothing of what was there has turned. -/
theorem trodAll_below {H : Type} {enc : TypeId × Value → H} {P : Program} {W W' : World} (hg : Below W.heap.size W W') {base : Nat} {spare : Nat → Bool} {held : Bool} : ∀ {ts : List TypeId} {vs : List Value} {ds : List (DataW H)} {ps : List MemPlace},
    DataW.TrodAll enc P W base spare held ts vs ds ps → (∀ p ∈ ps, p.block < W.heap.size) → DataW.TrodAll enc P W' base spare held ts vs ds ps
  | [], [], [], _, h, _ => h
  | _ :: _, _ :: _, _ :: _, _, ⟨p, q, ⟨n, h1⟩, h2, e⟩, hl =>
    ⟨p, q, ⟨n, DataW.trod_carry n _ _ _ h1 (fun x hx => hg.same (hl x (by rw [e]; exact List.mem_append_left _ hx)))⟩,
      trodAll_below hg h2 (fun x hx => hl x (by rw [e]; exact List.mem_append_right _ hx)), e⟩

/-- The end of a law's proof: the call has returned true, and of what was there nothing has turned. -/
theorem law_post {H : Type} {enc : TypeId × Value → H} {P : Program} (K : Kids P (· < P.types.size)) (full : ∀ t e, t < P.types.size → P.underlying t = some (.slice e) → 0 < P.cellsOf e)
    {f : Func} {s : ChangeSpec} {W W' : World} {args : Array Value} {ds gs : List (DataW H)} {before : List MemPlace} {tb : TypeId} (hb : P.underlying tb = some .bool)
    (hpar : ∀ t ∈ f.params.toList, t < P.types.size) (hres : f.resultTypes = #[tb]) (hvars : s.vars = []) (hfn : s.fn H ds = { results := [.lit (.bool true)], args := ds })
    (hW : DataW.Whole enc P f.params.toList s.vars false W args.toList ds gs before) (hg : Below W.heap.size W W') : s.post enc P f false true false false W args (.bool true) W' := by
  have hW' := hW
  obtain ⟨p, q, hA, hV, rfl, _, _⟩ := hW
  rw [hvars] at hV
  obtain ⟨rfl, rfl⟩ := trodVars_none hV
  have hlt : ∀ x ∈ p, x.block < W.heap.size := DataW.TrodAll.lt hA
  have hres' : ∀ (b : Nat) (sp : Nat → Bool) (hd : Bool), DataW.TrodAll enc P W' b sp hd f.resultTypes.toList ((Value.bool true).resultList f.resultTypes.size) (s.fn H (ds ++ [])).results [] := by
    intro b sp hd
    rw [List.append_nil, hfn, hres]
    exact trodAll_cons_mk (shut_bool hb _) trodAll_mk0
  have hargs : ∀ sp : Nat → Bool, (∀ x ∈ p, sp x.block = true) → DataW.TrodAll enc P W' 0 sp true f.params.toList args.toList (s.fn H (ds ++ [])).args p := by
    intro sp hsp
    rw [List.append_nil, hfn]
    exact DataW.TrodAll.respare K full hpar (trodAll_below hg hA hlt) hsp
  have hvs : ∀ sp : Nat → Bool, DataW.TrodVars enc P W' sp s.vars (s.fn H (ds ++ [])).vars [] := by
    intro sp
    rw [List.append_nil, hfn, hvars]
    rfl
  refine ⟨ds, [], p ++ [], [], p, [], hW', hres' _ _ _, hargs _ (fun x hx => by simpa using hlt x hx), hvs _, World.keptBut_mono (fun x hx => ⟨hx, ?_⟩) (hg.frame (· ∈ p ++ [])), fun h => by cases h⟩
  simpa using hx
end Go.Proofs.YthngnbaoaeomeaaDoor

/- The seat's own facts, the reading of arguments, and contracts of the small functions of chapter 1. -/
namespace Go.Proofs.YthngnbaoaeomeaaDoor
open Go.ChangeShapes Go.WideShapes Go.ChangeAt Go.RowKit

theorem own : ownKnob Tryd.prog.godebug = none := by kernel_rfl
theorem kids : Kids Tryd.prog (· < Tryd.prog.types.size) := kids_rows (by kernel_rfl) (by kernel_rfl)
theorem full : ∀ t e, t < Tryd.prog.types.size → Tryd.prog.underlying t = some (.slice e) → 0 < Tryd.prog.cellsOf e := slices_full_of Tryd.prog (by kernel_rfl)

theorem kTrans {a b c : World} (h : Below a.heap.size a b) (k : Below b.heap.size b c) : Below a.heap.size a c := h.trans (k.mono h.size)
theorem kAlloc {a b : World} (h : Below a.heap.size a b) (o : Obj) : Below a.heap.size a (b.alloc o) := h.alloc h.size o
theorem kSet {a b : World} {p : Addr} (h : Below a.heap.size a b) (hp : a.heap.size ≤ p.block) (v : Value) : Below a.heap.size a (b.setCell p v) := h.setCell hp v
theorem kDrewN {a b : World} (h : Below a.heap.size a b) (n : Nat) : Below a.heap.size a (b.drewN n) := ⟨h.os, h.tape, h.output, h.size, h.block⟩
theorem bcell {W w1 : World} (hb : Below W.heap.size W w1) : (∀ b o, b < W.heap.size → w1.cell? ⟨b, o, none⟩ = W.cell? ⟨b, o, none⟩) ∧ (∀ b o, b < W.heap.size → w1.frozen? ⟨b, o, none⟩ = W.frozen? ⟨b, o, none⟩) :=
  ⟨fun b o h => hb.cell (p := ⟨b, o, none⟩) h, fun b o h => hb.frozen (p := ⟨b, o, none⟩) h⟩

set_option maxRecDepth 100000 in
theorem flat_cell : flat Tryd.prog 3 69 = some [.i8, .i8] := by kernel_rfl
set_option maxRecDepth 100000 in
theorem agg_cell : isAggT Tryd.prog 69 = true := by kernel_rfl


/-! ### contracts that neither read nor write memory -/
theorem l00In_yes (n lo hi : Int) (w : World) (h1 : lo ≤ n) (h2 : n ≤ hi) :
    Calls Tryd.prog 56 #[.int .i64 n, .int .i64 lo, .int .i64 hi] w fun e w' => e = .returned (.bool true) ∧ w = w' := by
  go_enter Tryd.func56, Tryd.ntmps56
  go_wp2
  go_ret
  exact ⟨rfl, rfl⟩
theorem l00In_no (n lo hi : Int) (w : World) (h : n < lo ∨ hi < n) :
    Calls Tryd.prog 56 #[.int .i64 n, .int .i64 lo, .int .i64 hi] w fun e w' => e = .returned (.bool false) ∧ w = w' := by
  by_cases h1 : lo ≤ n
  · have h2 : decide (n ≤ hi) = false := by simp; omega
    have h3 : ¬ n ≤ hi := by omega
    clear h
    go_enter Tryd.func56, Tryd.ntmps56
    go_wp2
    go_ret
    exact ⟨rfl, rfl⟩
  · have h2 : decide (lo ≤ n) = false := by simp; omega
    clear h
    go_enter Tryd.func56, Tryd.ntmps56
    go_wp2
    go_ret
    exact ⟨rfl, rfl⟩
theorem l00In_any (n lo hi : Int) (w : World) (b : Bool) (hb : b = decide (lo ≤ n ∧ n ≤ hi)) :
    Calls Tryd.prog 56 #[.int .i64 n, .int .i64 lo, .int .i64 hi] w fun e w' => e = .returned (.bool b) ∧ w = w' := by
  cases b with
  | true => have := of_decide_eq_true hb.symm; exact l00In_yes n lo hi w this.1 this.2
  | false => have := of_decide_eq_false hb.symm; exact l00In_no n lo hi w (by omega)
theorem l01Side_any (n : Int) (w : World) (b : Bool) (hb : b = decide (0 ≤ n ∧ n ≤ 3)) :
    Calls Tryd.prog 77 #[.int .i64 n] w fun e w' => e = .returned (.bool b) ∧ w = w' := by
  have Hb := Lib.hid hb
  clear hb
  go_enter Tryd.func77, Tryd.ntmps77
  go_wp2_with (refine (l00In_any _ _ _ _ b Hb.out).mono ?_; rintro e w' ⟨rfl, rfl⟩)
  go_ret
  exact ⟨rfl, rfl⟩
theorem isSide_any (n : Int) (w : World) (b : Bool) (hb : b = decide (0 ≤ n ∧ n ≤ 3)) :
    Calls Tryd.prog 73 #[.int .i64 n] w fun e w' => e = .returned (.bool b) ∧ w = w' := by
  by_cases h1 : 0 ≤ n
  · by_cases h2 : n ≤ 3
    · obtain rfl : b = true := by rw [hb]; simp; omega
      clear hb
      go_enter Tryd.func73, Tryd.ntmps73
      go_wp2
      go_ret
      exact ⟨rfl, rfl⟩
    · obtain rfl : b = false := by rw [hb]; simp; omega
      have h3 : decide (n ≤ 3) = false := by simp; omega
      clear hb
      go_enter Tryd.func73, Tryd.ntmps73
      go_wp2
      go_ret
      exact ⟨rfl, rfl⟩
  · obtain rfl : b = false := by rw [hb]; simp; omega
    have h3 : decide (0 ≤ n) = false := by simp; omega
    clear hb
    go_enter Tryd.func73, Tryd.ntmps73
    go_wp2
    go_ret
    exact ⟨rfl, rfl⟩
end Go.Proofs.YthngnbaoaeomeaaDoor

/- Contracts of chapter 1's functions on cells and pieces: what each one returns. -/
namespace Go.Proofs.YthngnbaoaeomeaaDoor
open Go.ChangeShapes Go.WideShapes Go.ChangeAt Go.RowKit
set_option linter.unusedVariables false

def Pc.ok (p : Pc) : Bool := decide (0 ≤ p.kind ∧ p.kind ≤ 5 ∧ 0 ≤ p.turn ∧ p.turn ≤ 3 ∧ 1 ≤ p.delay ∧ p.delay ≤ 9 ∧ 0 ≤ p.x ∧ p.x ≤ 23 ∧ 0 ≤ p.y ∧ p.y ≤ 23)


set_option maxHeartbeats 1000000 in
theorem l01In_any (x y wide high : Int) (w : World) (hx : i8 x) (hy : i8 y) (hw : -1000 ≤ wide ∧ wide ≤ 1000) (hh : -1000 ≤ high ∧ high ≤ 1000) (b : Bool) (hb : b = decide (0 ≤ x ∧ x ≤ wide - 1 ∧ 0 ≤ y ∧ y ≤ high - 1)) :
    Calls Tryd.prog 93 #[.agg #[.int .i8 x, .int .i8 y], .int .i64 wide, .int .i64 high] w fun e w' => e = .returned (.bool b) ∧ Below w.heap.size w w' := by
  unfold i8 at hx hy
  by_cases h1 : 0 ≤ x ∧ x ≤ wide - 1
  · by_cases h2 : 0 ≤ y ∧ y ≤ high - 1
    · obtain rfl : b = true := by rw [hb]; simp; omega
      clear hb
      go_enter Tryd.func93, Tryd.ntmps93
      go_wp2_with (refine (l00In_yes _ _ _ _ (by omega) (by omega)).mono ?_; rintro e w' ⟨rfl, rfl⟩)
      go_ret
      exact ⟨rfl, (Below.refl _ _).alloc (Nat.le_refl _) _⟩
    · obtain rfl : b = false := by rw [hb]; simp; omega
      clear hb
      have h2' : y < 0 ∨ high - 1 < y := by omega
      clear h2
      go_enter Tryd.func93, Tryd.ntmps93
      go_wp2_with (first | (refine (l00In_yes _ _ _ _ ?_ ?_).mono ?_; (· omega); (· omega); rintro e w' ⟨rfl, rfl⟩) | (refine (l00In_no _ _ _ _ (by omega)).mono ?_; rintro e w' ⟨rfl, rfl⟩))
      go_ret
      exact ⟨rfl, (Below.refl _ _).alloc (Nat.le_refl _) _⟩
  · obtain rfl : b = false := by rw [hb]; simp; omega
    clear hb
    have h1' : x < 0 ∨ wide - 1 < x := by omega
    clear h1
    go_enter Tryd.func93, Tryd.ntmps93
    go_wp2_with (refine (l00In_no _ _ _ _ (by omega)).mono ?_; rintro e w' ⟨rfl, rfl⟩)
    go_ret
    exact ⟨rfl, (Below.refl _ _).alloc (Nat.le_refl _) _⟩

/-- the cells at 'a' are those of the piece -/
def PcAt (w : World) (b o : Nat) (p : Pc) : Prop :=
  w.cell? ⟨b, o, none⟩ = some (.int .i8 p.x) ∧ w.cell? ⟨b, o + 1, none⟩ = some (.int .i8 p.y) ∧ w.cell? ⟨b, o + 2, none⟩ = some (.int .i8 p.kind) ∧ w.cell? ⟨b, o + 3, none⟩ = some (.int .i8 p.turn) ∧ w.cell? ⟨b, o + 4, none⟩ = some (.int .i8 p.delay)

theorem PcAt.box (w : World) (p : Pc) (t : TypeId) : PcAt (w.alloc (.cells #[.int .i8 p.x, .int .i8 p.y, .int .i8 p.kind, .int .i8 p.turn, .int .i8 p.delay] t)) w.heap.size 0 p := by
  refine ⟨?_, ?_, ?_, ?_, ?_⟩ <;> simp
theorem PcAt.below {W w' : World} {b o : Nat} {p : Pc} (h : PcAt W b o p) (hb : Below W.heap.size W w') (hl : b < W.heap.size) : PcAt w' b o p := by
  obtain ⟨h0, h1, h2, h3, h4⟩ := h
  exact ⟨(hb.cell (p := ⟨b, _, none⟩) hl).trans h0, (hb.cell (p := ⟨b, _, none⟩) hl).trans h1, (hb.cell (p := ⟨b, _, none⟩) hl).trans h2, (hb.cell (p := ⟨b, _, none⟩) hl).trans h3, (hb.cell (p := ⟨b, _, none⟩) hl).trans h4⟩

theorem Pc.not_ok {p : Pc} (h : p.ok = false) : (p.kind < 0 ∨ 5 < p.kind) ∨ ((0 ≤ p.kind ∧ p.kind ≤ 5) ∧ (p.turn < 0 ∨ 3 < p.turn)) ∨ ((0 ≤ p.kind ∧ p.kind ≤ 5) ∧ (0 ≤ p.turn ∧ p.turn ≤ 3) ∧ (p.delay < 1 ∨ 9 < p.delay)) ∨
    ((0 ≤ p.kind ∧ p.kind ≤ 5) ∧ (0 ≤ p.turn ∧ p.turn ≤ 3) ∧ (1 ≤ p.delay ∧ p.delay ≤ 9) ∧ ¬ (0 ≤ p.x ∧ p.x ≤ 24 - 1 ∧ 0 ≤ p.y ∧ p.y ≤ 24 - 1)) := by
  have := of_decide_eq_false h
  omega


theorem eqCell_same (x y : Int) (w : World) (hx : i8 x) (hy : i8 y) :
    Calls Tryd.prog 76 #[.agg #[.int .i8 x, .int .i8 y], .agg #[.int .i8 x, .int .i8 y]] w fun e w' => e = .returned (.bool true) ∧ Below w.heap.size w w' := by
  go_enter Tryd.func76, Tryd.ntmps76
  go_wp2
  refine wp_loop_rounds 3 ?_
  rw [rounds_succ]
  go_wp2
  go_quiet (fail)
  go_wp2
  rw [rounds_succ]
  go_wp2
  go_quiet (fail)
  go_wp2
  rw [rounds_succ]
  go_wp2
  go_ret
  exact ⟨rfl, by repeat (first | with_reducible exact Below.refl _ _ | (with_reducible refine kSet ?_ ?hB _; case hB => (simp; try omega)) | with_reducible refine kAlloc ?_ _ | with_reducible refine Below.drew ?_ | with_reducible refine kDrewN ?_ _ | with_reducible refine kTrans ?_ (by assumption))⟩
end Go.Proofs.YthngnbaoaeomeaaDoor

/- Contracts of chapter 1's functions on cells and pieces, second part. -/
namespace Go.Proofs.YthngnbaoaeomeaaDoor
open Go.ChangeShapes Go.WideShapes Go.ChangeAt Go.RowKit
set_option linter.unusedVariables false


set_option maxHeartbeats 1000000 in
theorem holds_any (x y wide high : Int) (w : World) (hx : i8 x) (hy : i8 y) (hw : i8 wide) (hh : i8 high) (b : Bool) (hb : b = decide (0 ≤ x ∧ x < wide ∧ 0 ≤ y ∧ y < high)) :
    Calls Tryd.prog 72 #[.agg #[.int .i8 wide, .int .i8 high], .agg #[.int .i8 x, .int .i8 y]] w fun e w' => e = .returned (.bool b) ∧ Below w.heap.size w w' := by
  unfold i8 at hx hy hw hh
  by_cases h1 : 0 ≤ x
  · by_cases h2 : x < wide
    · by_cases h3 : 0 ≤ y
      · by_cases h4 : y < high
        · obtain rfl : b = true := by rw [hb]; simp; omega
          clear hb
          go_enter Tryd.func72, Tryd.ntmps72
          go_wp2
          go_ret
          exact ⟨rfl, by repeat (first | with_reducible exact Below.refl _ _ | (with_reducible refine kSet ?_ ?hB _; case hB => (simp; try omega)) | with_reducible refine kAlloc ?_ _ | with_reducible refine Below.drew ?_ | with_reducible refine kDrewN ?_ _ | with_reducible refine kTrans ?_ (by assumption))⟩
        · obtain rfl : b = false := by rw [hb]; simp; omega
          have h4' : decide (y < high) = false := by simp; omega
          clear hb h4
          go_enter Tryd.func72, Tryd.ntmps72
          go_wp2
          go_ret
          exact ⟨rfl, by repeat (first | with_reducible exact Below.refl _ _ | (with_reducible refine kSet ?_ ?hB _; case hB => (simp; try omega)) | with_reducible refine kAlloc ?_ _ | with_reducible refine Below.drew ?_ | with_reducible refine kDrewN ?_ _ | with_reducible refine kTrans ?_ (by assumption))⟩
      · obtain rfl : b = false := by rw [hb]; simp; omega
        have h3' : decide (0 ≤ y) = false := by simp; omega
        clear hb h3
        go_enter Tryd.func72, Tryd.ntmps72
        go_wp2
        go_ret
        exact ⟨rfl, by repeat (first | with_reducible exact Below.refl _ _ | (with_reducible refine kSet ?_ ?hB _; case hB => (simp; try omega)) | with_reducible refine kAlloc ?_ _ | with_reducible refine Below.drew ?_ | with_reducible refine kDrewN ?_ _ | with_reducible refine kTrans ?_ (by assumption))⟩
    · obtain rfl : b = false := by rw [hb]; simp; omega
      have h2' : decide (x < wide) = false := by simp; omega
      clear hb h2
      go_enter Tryd.func72, Tryd.ntmps72
      go_wp2
      go_ret
      exact ⟨rfl, by repeat (first | with_reducible exact Below.refl _ _ | (with_reducible refine kSet ?_ ?hB _; case hB => (simp; try omega)) | with_reducible refine kAlloc ?_ _ | with_reducible refine Below.drew ?_ | with_reducible refine kDrewN ?_ _ | with_reducible refine kTrans ?_ (by assumption))⟩
  · obtain rfl : b = false := by rw [hb]; simp; omega
    have h1' : decide (0 ≤ x) = false := by simp; omega
    clear hb h1
    go_enter Tryd.func72, Tryd.ntmps72
    go_wp2
    go_ret
    exact ⟨rfl, by repeat (first | with_reducible exact Below.refl _ _ | (with_reducible refine kSet ?_ ?hB _; case hB => (simp; try omega)) | with_reducible refine kAlloc ?_ _ | with_reducible refine Below.drew ?_ | with_reducible refine kDrewN ?_ _ | with_reducible refine kTrans ?_ (by assumption))⟩

end Go.Proofs.YthngnbaoaeomeaaDoor

/- Contracts of chapter 1's functions: next cells, quarters, turned pieces. -/
namespace Go.Proofs.YthngnbaoaeomeaaDoor
open Go.ChangeShapes Go.WideShapes Go.ChangeAt Go.RowKit
set_option linter.unusedVariables false

theorem ret_int {k : IntKind} {a b : Int} (h : a = b) : Ending.returned (.int k a) = .returned (.int k b) := by rw [h]

def stepX (x s : Int) : Int := if s = 1 then x + 1 else if s = 3 then x - 1 else x
def stepY (y s : Int) : Int := if s = 0 then y - 1 else if s = 2 then y + 1 else y



theorem tmod4 (n : Int) : (n.tmod 4 + 4) % 4 = n % 4 := by
  have := Int.tmod_add_mul_tdiv n 4
  omega
theorem tmod4_lo (n : Int) : -4 < n.tmod 4 := Int.lt_tmod_of_pos n (by decide)
theorem tmod4_hi (n : Int) : n.tmod 4 < 4 := Int.tmod_lt_of_pos n (by decide)


end Go.Proofs.YthngnbaoaeomeaaDoor

/- Contracts of the laws' own functions on boards: sizes and copies. -/
namespace Go.Proofs.YthngnbaoaeomeaaDoor
open Go.ChangeShapes Go.WideShapes Go.ChangeAt Go.RowKit
set_option linter.unusedVariables false

/-- the cells from 'o' on are those of the pieces -/
def PcsAt (w : World) (b o : Nat) (l : List Pc) : Prop := ∀ i (h : i < l.length), PcAt w b (o + i * 5) l[i]
/-- a slice that holds the pieces -/
inductive Sl (w : World) (l : List Pc) : Value → Prop where
  | empty (a : Option Addr) (cap : Nat) (h : l = []) : Sl w l (.slice a 0 cap)
  | mk (b o cap : Nat) (hc : PcsAt w b o l) (hb : b < w.heap.size) (hl : l.length ≤ cap) : Sl w l (.slice (some ⟨b, o, none⟩) l.length cap)


theorem PcsAt.set {w : World} {b o B j : Nat} {v : Value} {l : List Pc} (h : PcsAt w b o l) (hne : B ≠ b) : PcsAt (w.setCell ⟨B, j, none⟩ v) b o l := by
  intro i hi
  obtain ⟨h0, h1, h2, h3, h4⟩ := h i hi
  have ne : ∀ x : Nat, (⟨B, j, none⟩ : Addr) ≠ ⟨b, x, none⟩ := by intro x e; injection e with h1 _ _; exact hne h1
  exact ⟨by rw [World.cell?_setCell_other _ _ _ _ (ne _)]; exact h0, by rw [World.cell?_setCell_other _ _ _ _ (ne _)]; exact h1, by rw [World.cell?_setCell_other _ _ _ _ (ne _)]; exact h2, by rw [World.cell?_setCell_other _ _ _ _ (ne _)]; exact h3, by rw [World.cell?_setCell_other _ _ _ _ (ne _)]; exact h4⟩

/-- block B is a row of the call's own of n pieces, whose first k are those of 'l' -/
def Filled (w : World) (B n : Nat) (l : List Pc) (k : Nat) : Prop :=
  B < w.heap.size ∧ (∀ i (h : i < l.length), i < k → PcAt w B (0 + i * 5) l[i]) ∧ (∀ j, j < n * 5 → ∃ v, w.cell? ⟨B, j, none⟩ = some v) ∧ (∀ j, w.frozen? ⟨B, j, none⟩ = false)

theorem Filled.made {w w' : World} {n B : Nat} {l : List Pc} {e : TypeId} {v : Value} {xs : List Value} (h : w.ownsRow B e 5 (.slice (some ⟨B, 0, none⟩) n n) n xs) : Filled w B n l 0 := by
  refine ⟨(h.lt B rfl).2, fun i _ hi => absurd hi (by omega), fun j hj => ?_, fun j => h.frozenAt j⟩
  have hl : xs.length = n * 5 := h.1
  exact ⟨xs[j]'(by omega), by rw [h.cellAt j hj]; exact List.getElem?_eq_getElem (by omega)⟩

theorem Filled.below {w w' : World} {n B k : Nat} {l : List Pc} (h : Filled w B n l k) (hb : Below w.heap.size w w') : Filled w' B n l k := by
  obtain ⟨h1, h2, h3, h4⟩ := h
  refine ⟨Nat.lt_of_lt_of_le h1 hb.size, fun i hi hk => (h2 i hi hk).below hb h1, fun j hj => ?_, fun j => ?_⟩
  · rw [hb.cell (p := ⟨B, j, none⟩) h1]; exact h3 j hj
  · rw [hb.frozen (p := ⟨B, j, none⟩) h1]; exact h4 j

theorem cell_set {w : World} {B i j : Nat} {u v : Value} (h : w.cell? ⟨B, i, none⟩ = some u) : ∃ z, (w.setCell ⟨B, j, none⟩ v).cell? ⟨B, i, none⟩ = some z := by
  by_cases e : i = j
  · subst e; exact ⟨_, World.cell?_setCell_same _ _ _ h⟩
  · exact ⟨u, by rw [World.cell?_setCell_other _ _ _ _ (by intro h; injection h with _ h2 _; exact e h2.symm)]; exact h⟩

def World.set5 (w : World) (B o : Nat) (p : Pc) : World :=
  ((((w.setCell ⟨B, o, none⟩ (.int .i8 p.x)).setCell ⟨B, o + 1, none⟩ (.int .i8 p.y)).setCell ⟨B, o + 2, none⟩ (.int .i8 p.kind)).setCell ⟨B, o + 3, none⟩ (.int .i8 p.turn)).setCell ⟨B, o + 4, none⟩ (.int .i8 p.delay)

theorem set5_at {w : World} {B o : Nat} {p : Pc} (h : ∀ j, j < 5 → ∃ v, w.cell? ⟨B, o + j, none⟩ = some v) : PcAt (World.set5 w B o p) B o p := by
  obtain ⟨v0, h0⟩ := h 0 (by omega)
  rw [Nat.add_zero] at h0
  obtain ⟨v1, h1⟩ := h 1 (by omega)
  obtain ⟨v2, h2⟩ := h 2 (by omega)
  obtain ⟨v3, h3⟩ := h 3 (by omega)
  obtain ⟨v4, h4⟩ := h 4 (by omega)
  have ne : ∀ a b : Nat, a ≠ b → (⟨B, a, none⟩ : Addr) ≠ ⟨B, b, none⟩ := by intro a b hab e; injection e with _ h2 _; exact hab h2
  unfold World.set5 PcAt
  refine ⟨?_, ?_, ?_, ?_, ?_⟩
  · rw [World.cell?_setCell_other _ _ _ _ (ne _ _ (by omega)), World.cell?_setCell_other _ _ _ _ (ne _ _ (by omega)), World.cell?_setCell_other _ _ _ _ (ne _ _ (by omega)), World.cell?_setCell_other _ _ _ _ (ne _ _ (by omega)), World.cell?_setCell_same _ _ _ h0]
  · rw [World.cell?_setCell_other _ _ _ _ (ne _ _ (by omega)), World.cell?_setCell_other _ _ _ _ (ne _ _ (by omega)), World.cell?_setCell_other _ _ _ _ (ne _ _ (by omega)), World.cell?_setCell_same _ _ _ (by rw [World.cell?_setCell_other _ _ _ _ (ne _ _ (by omega))]; exact h1)]
  · rw [World.cell?_setCell_other _ _ _ _ (ne _ _ (by omega)), World.cell?_setCell_other _ _ _ _ (ne _ _ (by omega)), World.cell?_setCell_same _ _ _ (by rw [World.cell?_setCell_other _ _ _ _ (ne _ _ (by omega)), World.cell?_setCell_other _ _ _ _ (ne _ _ (by omega))]; exact h2)]
  · rw [World.cell?_setCell_other _ _ _ _ (ne _ _ (by omega)), World.cell?_setCell_same _ _ _ (by rw [World.cell?_setCell_other _ _ _ _ (ne _ _ (by omega)), World.cell?_setCell_other _ _ _ _ (ne _ _ (by omega)), World.cell?_setCell_other _ _ _ _ (ne _ _ (by omega))]; exact h3)]
  · rw [World.cell?_setCell_same _ _ _ (by rw [World.cell?_setCell_other _ _ _ _ (ne _ _ (by omega)), World.cell?_setCell_other _ _ _ _ (ne _ _ (by omega)), World.cell?_setCell_other _ _ _ _ (ne _ _ (by omega)), World.cell?_setCell_other _ _ _ _ (ne _ _ (by omega))]; exact h4)]

theorem set5_other {w : World} {B o : Nat} {p : Pc} {b i : Nat} (h : b ≠ B ∨ i < o ∨ o + 5 ≤ i) : (World.set5 w B o p).cell? ⟨b, i, none⟩ = w.cell? ⟨b, i, none⟩ := by
  have ne : ∀ a : Nat, (o ≤ a ∧ a < o + 5) → (⟨B, a, none⟩ : Addr) ≠ ⟨b, i, none⟩ := by intro a hab e; injection e with h1 h2 _; omega
  unfold World.set5
  rw [World.cell?_setCell_other _ _ _ _ (ne _ (by omega)), World.cell?_setCell_other _ _ _ _ (ne _ (by omega)), World.cell?_setCell_other _ _ _ _ (ne _ (by omega)), World.cell?_setCell_other _ _ _ _ (ne _ (by omega)), World.cell?_setCell_other _ _ _ _ (ne _ (by omega))]

theorem Filled.store {w : World} {B n k : Nat} {l : List Pc} {p : Pc} (h : Filled w B n l k) (hk : k < l.length) (hp : l[k] = p) (hkn : k < n) : Filled (World.set5 w B (k * 5) p) B n l (k + 1) := by
  obtain ⟨h1, h2, h3, h4⟩ := h
  refine ⟨by simpa [World.set5, World.size_setCell] using h1, fun i hi hik => ?_, fun j hj => ?_, fun j => ?_⟩
  · by_cases e : i = k
    · subst e
      rw [hp, Nat.zero_add]
      exact set5_at (fun j hj => h3 _ (by omega))
    · obtain ⟨a0, a1, a2, a3, a4⟩ := h2 i hi (by omega)
      exact ⟨by rw [set5_other (by omega)]; exact a0, by rw [set5_other (by omega)]; exact a1, by rw [set5_other (by omega)]; exact a2, by rw [set5_other (by omega)]; exact a3, by rw [set5_other (by omega)]; exact a4⟩
  · obtain ⟨v, hv⟩ := h3 j hj
    unfold World.set5
    obtain ⟨v1, h1⟩ := cell_set (j := k * 5) (v := .int .i8 p.x) hv
    obtain ⟨v2, h2⟩ := cell_set (j := k * 5 + 1) (v := .int .i8 p.y) h1
    obtain ⟨v3, h3⟩ := cell_set (j := k * 5 + 2) (v := .int .i8 p.kind) h2
    obtain ⟨v4, h4⟩ := cell_set (j := k * 5 + 3) (v := .int .i8 p.turn) h3
    exact cell_set (j := k * 5 + 4) (v := .int .i8 p.delay) h4
  · unfold World.set5
    simp only [World.frozen?_setCell]
    exact h4 j

theorem PcsAt.below {W w' : World} {b o : Nat} {l : List Pc} (h : PcsAt W b o l) (hb : Below W.heap.size W w') (hl : b < W.heap.size) : PcsAt w' b o l :=
  fun i hi => (h i hi).below hb hl

end Go.Proofs.YthngnbaoaeomeaaDoor

/- Contracts of the laws' comparisons of boards that hold the same. -/
namespace Go.Proofs.YthngnbaoaeomeaaDoor
open Go.ChangeShapes Go.WideShapes Go.ChangeAt Go.RowKit
set_option linter.unusedVariables false

/-- the pieces' numbers are those of an int8 -/
def All8 (l : List Pc) : Prop := ∀ p ∈ l, p.in8

end Go.Proofs.YthngnbaoaeomeaaDoor

/- Reading of a board that comes in: its size, and the pieces of its slice. -/
namespace Go.Proofs.YthngnbaoaeomeaaDoor
open Go.ChangeShapes Go.WideShapes Go.ChangeAt Go.RowKit Go.Joins Go.Deep
set_option linter.unusedVariables false

theorem add_none (b o n : Nat) : (⟨b, o, none⟩ : Addr).add n = ⟨b, o + n, none⟩ := by
  unfold Addr.add
  split
  · subst_vars; rfl
  · rfl

theorem spot_of_cells {w : World} {base : Nat} {a : Addr} {n : Nat} {cs : List Value} (hn : 0 < n) (h : w.cells? base a n = some cs) : a.spot = none ∧ a.block < w.heap.size := by
  obtain ⟨_, hl, hc⟩ := World.cells?_some h
  have h0 := hc 0 hn
  rw [List.getElem?_eq_getElem (by omega), show a.add 0 = a from rfl] at h0
  refine ⟨?_, World.block_lt_of_cell? w _ h0⟩
  cases hs : a.spot with
  | none => rfl
  | some s =>
    unfold World.cell? at h0
    rw [hs] at h0
    split at h0 <;> simp at h0

theorem ints_list5 {cs : List Value} (h : Ints cs [.i8, .i8, .i8, .i8, .i8]) :
    ∃ p : Pc, cs = p.cells ∧ p.in8 := by
  obtain ⟨x, y, z, u, v, e, hx, hy, hz, hu, hv⟩ := ints_five (cs := ⟨cs⟩) h
  exact ⟨⟨x, y, z, u, v⟩, congrArg Array.toList e, i8_of hx, i8_of hy, i8_of hz, i8_of hu, i8_of hv⟩

theorem pc_of_cells {w : World} {base b o : Nat} {cs : List Value} (h : w.cells? base ⟨b, o, none⟩ 5 = some cs) (hi : Ints cs [.i8, .i8, .i8, .i8, .i8]) : ∃ p : Pc, PcAt w b o p ∧ p.in8 := by
  obtain ⟨p, rfl, hp⟩ := ints_list5 hi
  obtain ⟨_, _, hc⟩ := World.cells?_some h
  have h0 := hc 0 (by omega)
  have h1 := hc 1 (by omega)
  have h2 := hc 2 (by omega)
  have h3 := hc 3 (by omega)
  have h4 := hc 4 (by omega)
  rw [add_none] at h0 h1 h2 h3 h4
  exact ⟨p, ⟨h0, h1, h2, h3, h4⟩, hp⟩

theorem all8_nil : All8 [] := fun _ h => absurd h (by simp)

theorem open_pcs {H : Type} {enc : TypeId × Value → H} {P : Program} {w : World} {base : Nat} {spare : Nat → Bool} {held : Bool} {t e : TypeId} {fuel : Nat} {v : Value} {x : DataW H × List MemPlace}
    (ht : P.underlying t = some (.slice e)) (hce : P.cellsOf e = 5) (hfl : flat P 4 e = some [.i8, .i8, .i8, .i8, .i8]) (h : DataW.trod enc P w base spare held fuel t [v] = some x) :
    ∃ l : List Pc, Sl w l v ∧ All8 l ∧ l.length ≤ maxLen := by
  rcases open_slice ht h with ⟨h0, _⟩ | ⟨a, len, cap, m, n, D, Pl, hcs, hb, hl, hm, hmm, _, hi⟩
  · simp only [List.cons.injEq, and_true] at h0
    subst h0
    exact ⟨[], .empty none 0 rfl, all8_nil, Nat.zero_le _⟩
  · simp only [List.cons.injEq, and_true] at hcs
    subst hcs
    have hml : len ≤ m := by rw [hmm]; split <;> omega
    by_cases h0 : len = 0
    · subst h0
      exact ⟨[], .empty (some a) cap rfl, all8_nil, Nat.zero_le _⟩
    · rw [hce] at hi
      obtain ⟨cs0, hc0, _⟩ := hi 0 (by omega)
      obtain ⟨hs, hbl⟩ := spot_of_cells (by omega) hc0
      obtain ⟨b, o, s⟩ := a
      have hs' : s = none := hs
      have hbl' : b < w.heap.size := hbl
      clear hs hbl hc0
      subst hs'
      have hp : ∀ i, i < len → ∃ p : Pc, PcAt w b (o + i * 5) p ∧ p.in8 := by
        intro i hil
        obtain ⟨cs, hc, hx⟩ := hi i (by omega)
        rw [add_none] at hc
        exact pc_of_cells hc (flat_ints 4 e _ n cs _ hfl hx)
      obtain ⟨F, hF⟩ : ∃ F : Nat → Pc, ∀ i, i < len → PcAt w b (o + i * 5) (F i) ∧ (F i).in8 :=
        ⟨fun i => if h : i < len then Classical.choose (hp i h) else ⟨0, 0, 0, 0, 0⟩, fun i h => by simp only [h, dite_true]; exact Classical.choose_spec (hp i h)⟩
      have hlen : ((List.range len).map F).length = len := by simp
      refine ⟨(List.range len).map F, ?_, ?_, by rw [hlen]; omega⟩
      · have := Sl.mk (w := w) (l := (List.range len).map F) b o cap (fun i hi => by
          rw [hlen] at hi
          simp only [List.getElem_map, List.getElem_range]
          exact (hF i hi).1) hbl' (by rw [hlen]; exact hl)
        rwa [hlen] at this
      · intro p hp
        obtain ⟨i, hi, rfl⟩ := List.mem_map.1 hp
        exact (hF i (List.mem_range.1 hi)).2

theorem open_board {H : Type} {enc : TypeId × Value → H} {P : Program} {w : World} {r : Reach} {b0 base : Nat} {spare : Nat → Bool} {held : Bool} {t e : TypeId} {f0 f1 f2 : Field} {v : Value} {d : DataW H} {p : List MemPlace}
    (hs : P.underlying t = some (.struct #[f0, f1, f2])) (hone : oneCellFields P #[f0, f1, f2] = true) (hC : P.cellsOf t = 3) (h0 : P.underlying f0.type = some (.int .i8)) (h1 : P.underlying f1.type = some (.int .i8)) (h2 : P.underlying f2.type = some (.slice e))
    (hce : P.cellsOf e = 5) (hfl : flat P 4 e = some [.i8, .i8, .i8, .i8, .i8]) (hv : Value.okWide P w r b0 t v) (h : DataW.Trod enc P w base spare held t v d p) :
    ∃ (wd hi : Int) (s : Value) (l : List Pc), v = .agg #[.int .i8 wd, .int .i8 hi, s] ∧ i8 wd ∧ i8 hi ∧ Sl w l s ∧ All8 l ∧ l.length ≤ 9223372036854775807 := by
  obtain ⟨v0, v1, v2, y0, y1, y2, n, rfl, _, _, g0, g1, g2⟩ := open_agg3 hs hone hC hv h
  obtain ⟨a, ha, _, wa⟩ := DataW.trod_int h0 g0
  obtain ⟨b, hb, _, wb⟩ := DataW.trod_int h1 g1
  simp only [List.cons.injEq, and_true] at ha hb
  subst ha hb
  obtain ⟨l, hl, h8, hm⟩ := open_pcs h2 hce hfl g2
  exact ⟨a, b, v2, l, rfl, i8_of wa, i8_of wb, hl, h8, by unfold maxLen at hm; omega⟩

end Go.Proofs.YthngnbaoaeomeaaDoor

/- Two cells are equal if both numbers are. -/
namespace Go.Proofs.YthngnbaoaeomeaaDoor
open Go.ChangeShapes Go.WideShapes Go.ChangeAt Go.RowKit
set_option linter.unusedVariables false
theorem part_cell0 (a b : Int) (w : World) : (part 22 #[.int .i8 a, .int .i8 b] 0).run Tryd.prog w = .ok (.int .i8 a) w := by kernel_rfl
theorem part_cell1 (a b : Int) (w : World) : (part 22 #[.int .i8 a, .int .i8 b] 1).run Tryd.prog w = .ok (.int .i8 b) w := by kernel_rfl
theorem sizeOf_i8 (w : World) : (sizeOf 22).run Tryd.prog w = .ok 1 w := by kernel_rfl
theorem cellEq_any (a b c e : Int) (w : World) : (Op.equalIn 10000 70 (.agg #[.int .i8 a, .int .i8 b]) (.agg #[.int .i8 c, .int .i8 e])).run Tryd.prog w = .ok (a == c && b == e) w := by
  have h1 : (Op.equalIn 9999 22 (.int .i8 a) (.int .i8 c)).run Tryd.prog w = .ok (a == c) w := run_equalIn_int w 9998 _ _ _ _ _ Tryd.underlying22
  have h2 : (Op.equalIn 9999 22 (.int .i8 b) (.int .i8 e)).run Tryd.prog w = .ok (b == e) w := run_equalIn_int w 9998 _ _ _ _ _ Tryd.underlying22
  rw [show (10000 : Nat) = 9999 + 1 from rfl, Op.equalIn]
  simp only [Sem.run_bind, run_underlying Tryd.underlying70, Result.andThen_ok, sizeOf_i8]
  simp [Std.Legacy.Range.forIn_eq_forIn_range', Result.andThen]
  rw [show List.range' 0 2 = [0, 1] from rfl]
  cases ha : (a == c) <;> cases hb : (b == e) <;> rw [ha] at h1 <;> rw [hb] at h2 <;> simp [List.forIn_cons, List.forIn_nil, Sem.run_bind, part_cell0, part_cell1, Result.andThen, h1, h2]
end Go.Proofs.YthngnbaoaeomeaaDoor

/- The model's search for the piece in a cell. -/
namespace Go.Proofs.YthngnbaoaeomeaaDoor
open Go.ChangeShapes Go.WideShapes Go.ChangeAt Go.RowKit
set_option linter.unusedVariables false

/-- the index of the first piece in a cell, counted from i on; -1 if there is none -/
def findFrom (x y : Int) : List Pc → Int → Int
  | [], _ => -1
  | p :: l, i => if p.x = x ∧ p.y = y then i else findFrom x y l (i + 1)

/-- the cells of a board behind a pointer -/
def BdAt (w : World) (b o : Nat) (wd hi : Int) (v : Value) : Prop :=
  w.cell? ⟨b, o, none⟩ = some (.int .i8 wd) ∧ w.cell? ⟨b, o + 1, none⟩ = some (.int .i8 hi) ∧ w.cell? ⟨b, o + 2, none⟩ = some v
theorem BdAt.below {W w' : World} {b o : Nat} {wd hi : Int} {v : Value} (h : BdAt W b o wd hi v) (hb : Below W.heap.size W w') (hl : b < W.heap.size) : BdAt w' b o wd hi v :=
  ⟨(hb.cell (p := ⟨b, _, none⟩) hl).trans h.1, (hb.cell (p := ⟨b, _, none⟩) hl).trans h.2.1, (hb.cell (p := ⟨b, _, none⟩) hl).trans h.2.2⟩
theorem BdAt.lt {w : World} {b o : Nat} {wd hi : Int} {v : Value} (h : BdAt w b o wd hi v) : b < w.heap.size := World.block_lt_of_cell? w _ h.1

end Go.Proofs.YthngnbaoaeomeaaDoor
