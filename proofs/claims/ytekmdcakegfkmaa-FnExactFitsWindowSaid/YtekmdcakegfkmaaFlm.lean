/- Reading of types that are made of integers and truths alone: their cells are of the kinds told (none: a truth). No program text. -/
import Derived.Test.YtekmdcakegfkmaaG1
namespace Go.Proofs.Ytekmdcakegfkmaa
open Go.ChangeShapes Go.WideShapes Go.ChangeAt Go.RowKit

def Mix : List Value → List (Option IntKind) → Prop
  | [], [] => True
  | v :: vs, some k :: ks => (∃ n, v = .int k n ∧ (Lit.int k n).wf = true) ∧ Mix vs ks
  | v :: vs, none :: ks => (∃ b, v = .bool b) ∧ Mix vs ks
  | _, _ => False

theorem Mix.append : ∀ {a b : List Value} {k l : List (Option IntKind)}, Mix a k → Mix b l → Mix (a ++ b) (k ++ l)
  | [], _, [], _, _, h => h
  | _ :: _, _, some _ :: _, _, h, g => ⟨h.1, Mix.append h.2 g⟩
  | _ :: _, _, none :: _, _, h, g => ⟨h.1, Mix.append h.2 g⟩
  | [], _, _ :: _, _, h, _ => by simp [Mix] at h
  | _ :: _, _, [], _, h, _ => by simp [Mix] at h

def flatFieldsM (fl : TypeId → Option (List (Option IntKind))) : Nat → List Field → Option (List (Option IntKind))
  | _, [] => some []
  | o, f :: fs => if f.offset = o then (fl f.type).bind fun a => (flatFieldsM fl (o + a.length) fs).map fun b => a ++ b else none

def flatM (P : Program) : Nat → TypeId → Option (List (Option IntKind))
  | 0, _ => none
  | n + 1, t =>
    let r := match P.underlying t with
      | some (.int k) => some [some k]
      | some .bool => some [none]
      | some (.struct fs) => flatFieldsM (flatM P n) 0 fs.toList
      | _ => none
    r.bind fun ks => if ks.length = P.cellsOf t then some ks else none

theorem mix_fields {rd : Nat → TypeId → List Value → Prop} {P : Program} {fl : TypeId → Option (List (Option IntKind))} {m : Nat}
    (hfl : ∀ t ks cs, fl t = some ks → rd m t cs → Mix cs ks ∧ ks.length = P.cellsOf t) :
    ∀ (fs : List Field) (o : Nat) (ks : List (Option IntKind)) (cs : List Value), flatFieldsM fl o fs = some ks → cs.length = o + ks.length →
      (∀ f ∈ fs, rd m f.type ((cs.drop f.offset).take (P.cellsOf f.type))) → Mix (cs.drop o) ks := by
  intro fs
  induction fs with
  | nil =>
    intro o ks cs h hl _
    simp only [flatFieldsM, Option.some.injEq] at h
    subst h
    rw [List.drop_of_length_le (by simp at hl; omega)]
    trivial
  | cons f fs ih =>
    intro o ks cs h hl hr
    simp only [flatFieldsM] at h
    split at h
    · rename_i ho
      obtain ⟨a, ha, h⟩ := Option.bind_eq_some_iff.1 h
      obtain ⟨b, hb, rfl⟩ := Option.map_eq_some_iff.1 h
      have h1 := hr f (List.mem_cons_self ..)
      obtain ⟨h2, h3⟩ := hfl _ _ _ ha h1
      rw [List.length_append] at hl
      have h4 := ih (o + a.length) b cs hb (by omega) (fun g hg => hr g (List.mem_cons_of_mem _ hg))
      have e : cs.drop o = (cs.drop o).take (P.cellsOf f.type) ++ cs.drop (o + a.length) := by
        rw [← h3]
        conv => lhs; rw [← List.take_append_drop a.length (cs.drop o)]
        rw [List.drop_drop]
      rw [e]
      rw [ho] at h2
      exact h2.append h4
    · cases h

theorem flatM_len (P : Program) : ∀ (n : Nat) (t : TypeId) (ks : List (Option IntKind)), flatM P n t = some ks → ks.length = P.cellsOf t := by
  intro n
  cases n with
  | zero => intro t ks h; simp [flatM] at h
  | succ n =>
    intro t ks h
    simp only [flatM] at h
    obtain ⟨r, _, h⟩ := Option.bind_eq_some_iff.1 h
    split at h
    · simp only [Option.some.injEq] at h; subst h; assumption
    · cases h

theorem flatM_ints {H : Type} {enc : TypeId × Value → H} {P : Program} {w : World} {base : Nat} {spare : Nat → Bool} {held : Bool} :
    ∀ (n : Nat) (t : TypeId) (ks : List (Option IntKind)) (fuel : Nat) (cs : List Value) (x : DataW H × List MemPlace), flatM P n t = some ks → DataW.trod enc P w base spare held fuel t cs = some x → Mix cs ks := by
  intro n
  induction n with
  | zero => intro t ks fuel cs x h; simp [flatM] at h
  | succ n ih =>
    intro t ks fuel cs x h hx
    have hlen := flatM_len P (n + 1) t ks h
    simp only [flatM] at h
    obtain ⟨r, hr, h⟩ := Option.bind_eq_some_iff.1 h
    split at h
    · simp only [Option.some.injEq] at h
      subst h
      split at hr
      · rename_i k hk
        simp only [Option.some.injEq] at hr
        subst hr
        obtain ⟨m, rfl, _, hw⟩ := DataW.trod_int hk hx
        exact ⟨⟨m, rfl, hw⟩, trivial⟩
      · rename_i hk
        simp only [Option.some.injEq] at hr
        subst hr
        obtain ⟨b, rfl, _⟩ := DataW.trod_bool hk hx
        exact ⟨⟨b, rfl⟩, trivial⟩
      · rename_i fs hk
        obtain ⟨xs, fu, _, _, hcl, hxl, hg⟩ := DataW.trod_struct hk hx
        have := mix_fields (P := P) (rd := fun q t c => ∃ y, DataW.trod enc P w base spare held q t c = some y) (fl := flatM P n) (m := fu)
          (fun t ks c hf ⟨y, hy⟩ => ⟨ih t ks fu c y hf hy, flatM_len P n t ks hf⟩) fs.toList 0 r cs hr (by rw [hcl, ← hlen]; simp)
          (fun f hf => by
            obtain ⟨i, hi, rfl⟩ := List.getElem_of_mem hf
            have hi2 : i < fs.size := by simpa using hi
            exact ⟨xs[i]'(by omega), by rw [hg i _ (by simp [hi2])]; exact List.getElem?_eq_getElem (by omega)⟩)
        simpa using this
      · cases hr
    · cases h

/-- A value that is read, of a struct, is their row. -/
theorem open_flatM {H : Type} {enc : TypeId × Value → H} {P : Program} {w w2 : World} {r : Reach} {b0 base : Nat} {spare : Nat → Bool} {held : Bool} {t : TypeId} {ks : List (Option IntKind)} {v : Value} {d : DataW H} {p : List MemPlace} (n : Nat)
    (hf : flatM P n t = some ks) (hs : isAggT P t = true)
    (hv : Value.okWide P w2 r b0 t v) (h : DataW.Trod enc P w base spare held t v d p) : ∃ cs : Array Value, v = .agg cs ∧ Mix cs.toList ks := by
  have hv' : ∃ cs : Array Value, v = .agg cs := by
    unfold Value.okWide at hv
    split at hv
    · obtain ⟨cs, rfl, _⟩ := hv; exact ⟨cs, rfl⟩
    · obtain ⟨cs, rfl, _⟩ := hv; exact ⟨cs, rfl⟩
    · rename_i h1 h2
      unfold isAggT at hs
      split at hs
      · exact absurd ‹_› (h1 _)
      · exact absurd ‹_› (h2 _ _)
      · cases hs
  obtain ⟨cs, rfl⟩ := hv'
  obtain ⟨fuel, hx⟩ := h
  exact ⟨cs, rfl, flatM_ints n t ks fuel _ _ hf hx⟩
end Go.Proofs.Ytekmdcakegfkmaa
