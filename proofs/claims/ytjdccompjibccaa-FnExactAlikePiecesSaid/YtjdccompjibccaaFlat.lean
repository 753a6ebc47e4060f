/- Reading of types that are made of integers alone (structs and arrays of them): their cells are integers of the kinds told. No program text. -/
import Derived.WalkKit
import Derived.ProofKit
import Derived.OpenShut
import Derived.ReadAgain
import Derived.Deep.Slices
import Derived.ChangeOld
import Derived.ChangeReads
namespace Go.Proofs.Ytjdccompjibccaa
open Go.ChangeShapes Go.WideShapes Go.ChangeAt Go.RowKit

def Ints : List Value → List IntKind → Prop
  | [], [] => True
  | v :: vs, k :: ks => (∃ n, v = .int k n ∧ (Lit.int k n).wf = true) ∧ Ints vs ks
  | _, _ => False

theorem Ints.append : ∀ {a b : List Value} {k l : List IntKind}, Ints a k → Ints b l → Ints (a ++ b) (k ++ l)
  | [], _, [], _, _, h => h
  | _ :: _, _, _ :: _, _, h, g => ⟨h.1, Ints.append h.2 g⟩
  | [], _, _ :: _, _, h, _ => h.elim
  | _ :: _, _, [], _, h, _ => h.elim

theorem Ints.length : ∀ {a : List Value} {k : List IntKind}, Ints a k → a.length = k.length
  | [], [], _ => rfl
  | _ :: _, _ :: _, h => by simp [Ints.length h.2]
  | [], _ :: _, h => h.elim
  | _ :: _, [], h => h.elim

def flatFields (fl : TypeId → Option (List IntKind)) : Nat → List Field → Option (List IntKind)
  | _, [] => some []
  | o, f :: fs => if f.offset = o then (fl f.type).bind fun a => (flatFields fl (o + a.length) fs).map fun b => a ++ b else none

def flat (P : Program) : Nat → TypeId → Option (List IntKind)
  | 0, _ => none
  | n + 1, t =>
    let r := match P.underlying t with
      | some (.int k) => some [k]
      | some (.array m e) => (flat P n e).map fun a => (List.replicate m a).flatten
      | some (.struct fs) => flatFields (flat P n) 0 fs.toList
      | _ => none
    r.bind fun ks => if ks.length = P.cellsOf t then some ks else none

theorem ints_fields {rd : Nat → TypeId → List Value → Prop} {P : Program} {fl : TypeId → Option (List IntKind)} {m : Nat}
    (hfl : ∀ t ks cs, fl t = some ks → rd m t cs → Ints cs ks ∧ ks.length = P.cellsOf t) (_ : True) :
    ∀ (fs : List Field) (o : Nat) (ks : List IntKind) (cs : List Value), flatFields fl o fs = some ks → cs.length = o + ks.length →
      (∀ f ∈ fs, rd m f.type ((cs.drop f.offset).take (P.cellsOf f.type))) → Ints (cs.drop o) ks := by
  intro fs
  induction fs with
  | nil =>
    intro o ks cs h hl _
    simp only [flatFields, Option.some.injEq] at h
    subst h
    rw [List.drop_of_length_le (by simp at hl; omega)]
    trivial
  | cons f fs ih =>
    intro o ks cs h hl hr
    simp only [flatFields] at h
    split at h
    · rename_i ho
      obtain ⟨a, ha, h⟩ := Option.bind_eq_some_iff.1 h
      obtain ⟨b, hb, rfl⟩ := Option.map_eq_some_iff.1 h
      have h1 := hr f (List.mem_cons_self ..)
      obtain ⟨h2, h3⟩ := hfl _ _ _ ha h1
      rw [List.length_append] at hl
      have h4 := ih (o + a.length) b cs hb (by omega) (fun g hg => hr g (List.mem_cons_of_mem _ hg))
      have e : cs.drop o = (cs.drop o).take (P.cellsOf f.type) ++ cs.drop (o + a.length) := by
        rw [← h3]
        conv => lhs; rw [← List.take_append_drop a.length (cs.drop o)]
        rw [List.drop_drop]
      rw [e]
      rw [ho] at h2
      exact h2.append h4
    · cases h

theorem ints_array {rd : List Value → Prop} {c : Nat} {a : List IntKind} (hrd : ∀ cs, rd cs → Ints cs a) (_ : a.length = c) :
    ∀ (m i : Nat) (cs : List Value), cs.length = (i + m) * c → (∀ j, i ≤ j → j < i + m → rd ((cs.drop (j * c)).take c)) → Ints (cs.drop (i * c)) (List.replicate m a).flatten := by
  intro m
  induction m with
  | zero =>
    intro i cs hl _
    rw [List.drop_of_length_le (by simp at hl; omega)]
    trivial
  | succ m ih =>
    intro i cs hl hr
    have h1 := hrd _ (hr i (Nat.le_refl _) (by omega))
    have h2 := ih (i + 1) cs (by rw [hl]; congr 1; omega) (fun j hj hj2 => hr j (by omega) (by omega))
    have e : cs.drop (i * c) = (cs.drop (i * c)).take c ++ cs.drop ((i + 1) * c) := by
      conv => lhs; rw [← List.take_append_drop c (cs.drop (i * c))]
      rw [List.drop_drop, Nat.succ_mul]
    rw [e, List.replicate_succ, List.flatten_cons]
    exact h1.append h2

theorem flat_len (P : Program) : ∀ (n : Nat) (t : TypeId) (ks : List IntKind), flat P n t = some ks → ks.length = P.cellsOf t := by
  intro n
  cases n with
  | zero => intro t ks h; simp [flat] at h
  | succ n =>
    intro t ks h
    simp only [flat] at h
    obtain ⟨r, _, h⟩ := Option.bind_eq_some_iff.1 h
    split at h
    · simp only [Option.some.injEq] at h; subst h; assumption
    · cases h

theorem flat_ints {H : Type} {enc : TypeId × Value → H} {P : Program} {w : World} {base : Nat} {spare : Nat → Bool} {held : Bool} :
    ∀ (n : Nat) (t : TypeId) (ks : List IntKind) (fuel : Nat) (cs : List Value) (x : DataW H × List MemPlace), flat P n t = some ks → DataW.trod enc P w base spare held fuel t cs = some x → Ints cs ks := by
  intro n
  induction n with
  | zero => intro t ks fuel cs x h; simp [flat] at h
  | succ n ih =>
    intro t ks fuel cs x h hx
    have hlen := flat_len P (n + 1) t ks h
    simp only [flat] at h
    obtain ⟨r, hr, h⟩ := Option.bind_eq_some_iff.1 h
    split at h
    · simp only [Option.some.injEq] at h
      subst h
      split at hr
      · rename_i k hk
        simp only [Option.some.injEq] at hr
        subst hr
        obtain ⟨m, rfl, _, hw⟩ := DataW.trod_int hk hx
        exact ⟨⟨m, rfl, hw⟩, trivial⟩
      · rename_i m e hk
        obtain ⟨a, ha, rfl⟩ := Option.map_eq_some_iff.1 hr
        obtain ⟨xs, fu, _, _, hcl, hxl, hg⟩ := DataW.trod_array hk hx
        have hal := flat_len P n e a ha
        have hcl2 : cs.length = (0 + m) * P.cellsOf e := by
          rw [hcl, ← hlen, ← hal]; simp
        have := ints_array (rd := fun c => ∃ y, DataW.trod enc P w base spare held fu e c = some y) (hrd := fun c ⟨y, hy⟩ => ih e a fu c y ha hy) hal m 0 cs hcl2
          (fun j _ hj => ⟨xs[j]'(by omega), by rw [hg j (by omega)]; exact List.getElem?_eq_getElem (by omega)⟩)
        simpa using this
      · rename_i fs hk
        obtain ⟨xs, fu, _, _, hcl, hxl, hg⟩ := DataW.trod_struct hk hx
        have := ints_fields (P := P) (rd := fun q t c => ∃ y, DataW.trod enc P w base spare held q t c = some y) (fl := flat P n) (m := fu)
          (fun t ks c hf ⟨y, hy⟩ => ⟨ih t ks fu c y hf hy, flat_len P n t ks hf⟩) trivial fs.toList 0 r cs hr (by rw [hcl, ← hlen]; simp)
          (fun f hf => by
            obtain ⟨i, hi, rfl⟩ := List.getElem_of_mem hf
            have hi2 : i < fs.size := by simpa using hi
            exact ⟨xs[i]'(by omega), by rw [hg i _ (by simp [hi2])]; exact List.getElem?_eq_getElem (by omega)⟩)
        simpa using this
      · cases hr
    · cases h

def isAggT (P : Program) (t : TypeId) : Bool := match P.underlying t with | some (.struct _) | some (.array _ _) => true | _ => false

/-- A value that is read, of a type of two integers or more, is their row. -/
theorem open_flat {H : Type} {enc : TypeId × Value → H} {P : Program} {w w2 : World} {r : Reach} {b0 base : Nat} {spare : Nat → Bool} {held : Bool} {t : TypeId} {ks : List IntKind} {v : Value} {d : DataW H} {p : List MemPlace} (n : Nat)
    (hf : flat P n t = some ks) (hs : isAggT P t = true)
    (hv : Value.okWide P w2 r b0 t v) (h : DataW.Trod enc P w base spare held t v d p) : ∃ cs : Array Value, v = .agg cs ∧ Ints cs.toList ks := by
  have hv' : ∃ cs : Array Value, v = .agg cs := by
    unfold Value.okWide at hv
    split at hv
    · obtain ⟨cs, rfl, _⟩ := hv; exact ⟨cs, rfl⟩
    · obtain ⟨cs, rfl, _⟩ := hv; exact ⟨cs, rfl⟩
    · rename_i h1 h2
      unfold isAggT at hs
      split at hs
      · exact absurd ‹_› (h1 _)
      · exact absurd ‹_› (h2 _ _)
      · cases hs
  obtain ⟨cs, rfl⟩ := hv'
  obtain ⟨fuel, hx⟩ := h
  exact ⟨cs, rfl, flat_ints n t ks fuel _ _ hf hx⟩

theorem ints_two {cs : Array Value} {k0 k1 : IntKind} (h : Ints cs.toList [k0, k1]) : ∃ a b : Int, cs = #[.int k0 a, .int k1 b] ∧ (Lit.int k0 a).wf = true ∧ (Lit.int k1 b).wf = true := by
  obtain ⟨cs⟩ := cs
  match cs, h with
  | [_, _], ⟨⟨x, rfl, hx⟩, ⟨y, rfl, hy⟩, _⟩ => exact ⟨x, y, rfl, hx, hy⟩
theorem ints_three {cs : Array Value} {k0 k1 k2 : IntKind} (h : Ints cs.toList [k0, k1, k2]) : ∃ a b c : Int, cs = #[.int k0 a, .int k1 b, .int k2 c] ∧ (Lit.int k0 a).wf = true ∧ (Lit.int k1 b).wf = true ∧ (Lit.int k2 c).wf = true := by
  obtain ⟨cs⟩ := cs
  match cs, h with
  | [_, _, _], ⟨⟨x, rfl, hx⟩, ⟨y, rfl, hy⟩, ⟨z, rfl, hz⟩, _⟩ => exact ⟨x, y, z, rfl, hx, hy, hz⟩
theorem ints_five {cs : Array Value} {k0 k1 k2 k3 k4 : IntKind} (h : Ints cs.toList [k0, k1, k2, k3, k4]) :
    ∃ a b c d e : Int, cs = #[.int k0 a, .int k1 b, .int k2 c, .int k3 d, .int k4 e] ∧ (Lit.int k0 a).wf = true ∧ (Lit.int k1 b).wf = true ∧ (Lit.int k2 c).wf = true ∧ (Lit.int k3 d).wf = true ∧ (Lit.int k4 e).wf = true := by
  obtain ⟨cs⟩ := cs
  match cs, h with
  | [_, _, _, _, _], ⟨⟨x, rfl, hx⟩, ⟨y, rfl, hy⟩, ⟨z, rfl, hz⟩, ⟨u, rfl, hu⟩, ⟨v, rfl, hv⟩, _⟩ => exact ⟨x, y, z, u, v, rfl, hx, hy, hz, hu, hv⟩

/-- that a number is one of an int8 -/
def i8 (n : Int) : Prop := -128 ≤ n ∧ n ≤ 127
theorem i8_of {n : Int} (h : (Lit.int .i8 n).wf = true) : i8 n := bounds_i8 h

/-- a piece: the numbers of its cells -/
structure Pc where
  x : Int
  y : Int
  kind : Int
  turn : Int
  delay : Int
deriving DecidableEq
def Pc.cells (p : Pc) : List Value := [.int .i8 p.x, .int .i8 p.y, .int .i8 p.kind, .int .i8 p.turn, .int .i8 p.delay]
def Pc.in8 (p : Pc) : Prop := i8 p.x ∧ i8 p.y ∧ i8 p.kind ∧ i8 p.turn ∧ i8 p.delay
theorem open_cell {H : Type} {enc : TypeId × Value → H} {P : Program} {w w2 : World} {r : Reach} {b0 base : Nat} {spare : Nat → Bool} {held : Bool} {t : TypeId} {v : Value} {d : DataW H} {p : List MemPlace} {n : Nat}
    (hf : flat P n t = some [.i8, .i8]) (hs : isAggT P t = true) (hv : Value.okWide P w2 r b0 t v) (h : DataW.Trod enc P w base spare held t v d p) :
    ∃ x y : Int, v = .agg #[.int .i8 x, .int .i8 y] ∧ i8 x ∧ i8 y := by
  obtain ⟨cs, rfl, hi⟩ := open_flat n hf hs hv h
  obtain ⟨x, y, rfl, hx, hy⟩ := ints_two hi
  exact ⟨x, y, rfl, i8_of hx, i8_of hy⟩
theorem open_piece {H : Type} {enc : TypeId × Value → H} {P : Program} {w w2 : World} {r : Reach} {b0 base : Nat} {spare : Nat → Bool} {held : Bool} {t : TypeId} {v : Value} {d : DataW H} {p : List MemPlace} {n : Nat}
    (hf : flat P n t = some [.i8, .i8, .i8, .i8, .i8]) (hs : isAggT P t = true) (hv : Value.okWide P w2 r b0 t v) (h : DataW.Trod enc P w base spare held t v d p) :
    ∃ p : Pc, v = .agg #[.int .i8 p.x, .int .i8 p.y, .int .i8 p.kind, .int .i8 p.turn, .int .i8 p.delay] ∧ p.in8 := by
  obtain ⟨cs, rfl, hi⟩ := open_flat n hf hs hv h
  obtain ⟨x, y, z, t, u, rfl, hx, hy, hz, ht, hu⟩ := ints_five hi
  exact ⟨⟨x, y, z, t, u⟩, rfl, i8_of hx, i8_of hy, i8_of hz, i8_of ht, i8_of hu⟩

/-- An argument reads behind the call as it did, if nothing of what was there has turned. -/
theorem trodAll_below {H : Type} {enc : TypeId × Value → H} {P : Program} {W W' : World} (hg : Below W.heap.size W W') {base : Nat} {spare : Nat → Bool} {held : Bool} : ∀ {ts : List TypeId} {vs : List Value} {ds : List (DataW H)} {ps : List MemPlace},
    DataW.TrodAll enc P W base spare held ts vs ds ps → (∀ p ∈ ps, p.block < W.heap.size) → DataW.TrodAll enc P W' base spare held ts vs ds ps
  | [], [], [], _, h, _ => h
  | _ :: _, _ :: _, _ :: _, _, ⟨p, q, ⟨n, h1⟩, h2, e⟩, hl =>
    ⟨p, q, ⟨n, DataW.trod_carry n _ _ _ h1 (fun x hx => hg.same (hl x (by rw [e]; exact List.mem_append_left _ hx)))⟩,
      trodAll_below hg h2 (fun x hx => hl x (by rw [e]; exact List.mem_append_right _ hx)), e⟩

/-- The end of a law's proof: the call has returned true, and of what was there nothing has turned. -/
theorem law_post {H : Type} {enc : TypeId × Value → H} {P : Program} (K : Kids P (· < P.types.size)) (full : ∀ t e, t < P.types.size → P.underlying t = some (.slice e) → 0 < P.cellsOf e)
    {f : Func} {s : ChangeSpec} {W W' : World} {args : Array Value} {ds gs : List (DataW H)} {before : List MemPlace} {tb : TypeId} (hb : P.underlying tb = some .bool)
    (hpar : ∀ t ∈ f.params.toList, t < P.types.size) (hres : f.resultTypes = #[tb]) (hvars : s.vars = []) (hfn : s.fn H ds = { results := [.lit (.bool true)], args := ds })
    (hW : DataW.Whole enc P f.params.toList s.vars false W args.toList ds gs before) (hg : Below W.heap.size W W') : s.post enc P f false true false false W args (.bool true) W' := by
  have hW' := hW
  obtain ⟨p, q, hA, hV, rfl, _, _⟩ := hW
  rw [hvars] at hV
  obtain ⟨rfl, rfl⟩ := trodVars_none hV
  have hlt : ∀ x ∈ p, x.block < W.heap.size := DataW.TrodAll.lt hA
  have hres' : ∀ (b : Nat) (sp : Nat → Bool) (hd : Bool), DataW.TrodAll enc P W' b sp hd f.resultTypes.toList ((Value.bool true).resultList f.resultTypes.size) (s.fn H (ds ++ [])).results [] := by
    intro b sp hd
    rw [List.append_nil, hfn, hres]
    exact trodAll_cons_mk (shut_bool hb _) trodAll_mk0
  have hargs : ∀ sp : Nat → Bool, (∀ x ∈ p, sp x.block = true) → DataW.TrodAll enc P W' 0 sp true f.params.toList args.toList (s.fn H (ds ++ [])).args p := by
    intro sp hsp
    rw [List.append_nil, hfn]
    exact DataW.TrodAll.respare K full hpar (trodAll_below hg hA hlt) hsp
  have hvs : ∀ sp : Nat → Bool, DataW.TrodVars enc P W' sp s.vars (s.fn H (ds ++ [])).vars [] := by
    intro sp
    rw [List.append_nil, hfn, hvars]
    rfl
  refine ⟨ds, [], p ++ [], [], p, [], hW', hres' _ _ _, hargs _ (fun x hx => by simpa using hlt x hx), hvs _, World.keptBut_mono (fun x hx => ⟨hx, ?_⟩) (hg.frame (· ∈ p ++ [])), fun h => by cases h⟩
  simpa using hx
end Go.Proofs.Ytjdccompjibccaa
