/- The keeper: the map of nodes seen, slices.Index, keep. -/
import Derived.Test.YtdnjamlibnmpfaaPt
import Derived.Test.YtdnjamlibnmpfaaTn
import Derived.Test.YtdnjamlibnmpfaaG21
import Derived.MapKept
namespace Go.Proofs.Ytdnjamlibnmpfaa
open Go.ChangeShapes Go.WideShapes Go.ChangeAt Go.RowKit Go.Joins Go.Deep
set_option linter.unusedVariables false
set_option linter.unusedSimpArgs false
def nodeV (p : Nd) : Value := .agg #[.int .i8 p.kind, .int .i16 p.a, .int .i16 p.b]
/-- entries that are these nodes with their places -/
def NEnt : List MapEntry → List (Nd × Int) → Prop
  | [], [] => True
  | e :: es, p :: l => e.key = nodeV p.1 ∧ e.val = .int .i16 p.2 ∧ NEnt es l
  | _, _ => False
theorem NEnt.snoc : ∀ {es : List MapEntry} {l : List (Nd × Int)} {e : MapEntry} {p : Nd × Int}, NEnt es l → e.key = nodeV p.1 → e.val = .int .i16 p.2 → NEnt (es ++ [e]) (l ++ [p])
  | [], [], e, p, _, hk, hv => ⟨hk, hv, trivial⟩
  | _ :: _, _ :: _, e, p, h, hk, hv => ⟨h.1, h.2.1, NEnt.snoc h.2.2 hk hv⟩
  | [], _ :: _, _, _, h, _, _ => h.elim
  | _ :: _, [], _, _, h, _, _ => h.elim
def asN : List (Nd × Int) → Nd → Option Int
  | [], _ => none
  | q :: l, p => if p = q.1 then some q.2 else asN l p
theorem asN_mem {p : Nd} {v : Int} : ∀ {l : List (Nd × Int)}, asN l p = some v → (p, v) ∈ l
  | q :: l, h => by
    rw [asN] at h
    split at h
    · rename_i e
      injection h with h
      obtain ⟨q1, q2⟩ := q
      simp only at e h
      rw [e, h]
      exact List.mem_cons_self
    · exact List.mem_cons_of_mem _ (asN_mem h)
def NMapAt (w : World) (B : Nat) (l : List (Nd × Int)) : Prop := ∃ es clock, w.heap[B]? = some (.map es clock) ∧ NEnt es.toList l
theorem NMapAt.of_block {W w' : World} {B : Nat} {l : List (Nd × Int)} (h : NMapAt W B l) (hb : w'.heap[B]? = W.heap[B]?) : NMapAt w' B l := by
  obtain ⟨es, c, h1, h2⟩ := h
  exact ⟨es, c, hb.trans h1, h2⟩
theorem NMapAt.lt {w : World} {B : Nat} {l : List (Nd × Int)} (h : NMapAt w B l) : B < w.heap.size := by
  obtain ⟨es, c, h1, h2⟩ := h
  exact (Array.getElem?_eq_some_iff.1 h1).1
theorem NMapAt.below {W w' : World} {B : Nat} {l : List (Nd × Int)} (h : NMapAt W B l) (hb : Below W.heap.size W w') : NMapAt w' B l := h.of_block (hb.block B h.lt)
theorem nodeEqual (p q : Nd) (w : World) : (Op.equal 48 (nodeV p) (nodeV q)).run Try.prog w = .ok (decide (p = q)) w := Nd_eq p q w
theorem findAsking_nodes (p : Nd) (w : World) : ∀ (es : List MapEntry) (l : List (Nd × Int)) (i : Nat), NEnt es l →
    (∀ v, asN l p = some v → ∃ q : Nat, (Instr.findAsking 48 (nodeV p) es i).run Try.prog w = .ok (some (q, .int .i16 v)) w) ∧ (asN l p = none → (Instr.findAsking 48 (nodeV p) es i).run Try.prog w = .ok none w)
  | [], [], i, _ => ⟨fun v h => by simp [asN] at h, fun _ => by simp [Instr.findAsking]⟩
  | e :: es, a :: l, i, ⟨hk, hv, h⟩ => by
    by_cases hx : p = a.1
    · refine ⟨fun v hs => ⟨i, ?_⟩, fun hs => by simp [asN, hx] at hs⟩
      have hv2 : a.2 = v := by simpa [asN, hx] using hs
      simp [Instr.findAsking, Sem.run_bind, hk, nodeEqual, Result.andThen, hx, hv, hv2]
    · obtain ⟨h1, h2⟩ := findAsking_nodes p w es l (i + 1) h
      have e1 : asN (a :: l) p = asN l p := by rw [asN, if_neg hx]
      rw [e1]
      refine ⟨fun v hs => ?_, fun hs => ?_⟩
      · obtain ⟨q, hq⟩ := h1 v hs
        refine ⟨q, ?_⟩
        rw [← hq]
        simp [Instr.findAsking, Sem.run_bind, hk, nodeEqual, Result.andThen, hx]
      · rw [← h2 hs]
        simp [Instr.findAsking, Sem.run_bind, hk, nodeEqual, Result.andThen, hx]
  | [], _ :: _, _, h => h.elim
  | _ :: _, [], _, h => h.elim
theorem check_node (em : Bool) (p : Nd) (w : World) : (Instr.checkKey em 10000 48 (nodeV p)).run Try.prog w = .ok () w := by kernel_rfl
theorem findKey_nodes (p : Nd) (w : World) (es : List MapEntry) (l : List (Nd × Int)) (h : NEnt es l) :
    (∀ v, asN l p = some v → ∃ q : Nat, (Instr.findKey 48 (nodeV p) es).run Try.prog w = .ok (some (q, .int .i16 v)) w) ∧ (asN l p = none → (Instr.findKey 48 (nodeV p) es).run Try.prog w = .ok none w) := by
  match es, l, h with
  | [], [], _ => exact ⟨fun v h => by simp [asN] at h, fun _ => by simp [Instr.findKey, Instr.findNow, run_underlying Try.underlying48, Result.andThen]⟩
  | e :: es, a :: l, h =>
    have hq := findAsking_nodes p w (e :: es) (a :: l) 0 h
    have e1 : (Instr.findKey 48 (nodeV p) (e :: es)).run Try.prog w = (Instr.findAsking 48 (nodeV p) (e :: es) 0).run Try.prog w := by
      simp [Instr.findKey, Instr.findNow, Instr.sameNow, Sem.run_bind, run_underlying Try.underlying48, Result.andThen]
    rw [e1]
    exact hq
theorem lookup_hit (p : Nd) (v : Int) (w : World) (B : Nat) (l : List (Nd × Int)) (h : NMapAt w B l) (hv : asN l p = some v) :
    (Instr.lookup 107 (.map (some B)) (nodeV p) true).run Try.prog w = .ok (.tuple #[.int .i16 v, .bool true]) w := by
  obtain ⟨es, clock, hb, he⟩ := h
  obtain ⟨q, hq⟩ := (findKey_nodes p w es.toList l he).1 v hv
  have hg : (getObj B).run Try.prog w = .ok (.map es clock) w := Go.MapKept.run_getObj_map hb
  simp only [Instr.lookup, Sem.run_bind, run_underlying Try.underlying107, Result.andThen_ok, hg, Sem.run_pure, check_node, hq]
  simp
theorem lookup_miss (p : Nd) (w : World) (B : Nat) (l : List (Nd × Int)) (h : NMapAt w B l) (hv : asN l p = none) :
    (Instr.lookup 107 (.map (some B)) (nodeV p) true).run Try.prog w = .ok (.tuple #[.int .i16 0, .bool false]) w := by
  obtain ⟨es, clock, hb, he⟩ := h
  have hq := (findKey_nodes p w es.toList l he).2 hv
  have hg : (getObj B).run Try.prog w = .ok (.map es clock) w := Go.MapKept.run_getObj_map hb
  have hz : (zeroValue 46).run Try.prog w = .ok (.int .i16 0) w := by kernel_rfl
  simp only [Instr.lookup, Sem.run_bind, run_underlying Try.underlying107, Result.andThen_ok, hg, Sem.run_pure, check_node, hq]
  simp [hz, Result.andThen]
theorem update_node (p : Nd) (v : Int) (w : World) (B : Nat) (l : List (Nd × Int)) (h : NMapAt w B l) (hn : asN l p = none) :
    ∃ w', (Instr.mapUpdate 107 (.map (some B)) (nodeV p) (.int .i16 v)).run Try.prog w = .ok () w' ∧ NMapAt w' B (l ++ [(p, v)]) ∧ (∀ k, k ≠ B → w'.heap[k]? = w.heap[k]?) ∧ w'.heap.size = w.heap.size ∧ w'.os = w.os ∧ w'.tape = w.tape ∧ w'.output = w.output := by
  obtain ⟨es, clock, hb, he⟩ := h
  have hq := (findKey_nodes p w es.toList l he).2 hn
  have hg : (getObj B).run Try.prog w = .ok (.map es clock) w := Go.MapKept.run_getObj_map hb
  have hs := Go.MapKept.run_setObj_map (P := Try.prog) (.map (es.push { key := nodeV p, val := .int .i16 v, born := clock }) (clock + 1)) hb
  have hlt : B < w.heap.size := (Array.getElem?_eq_some_iff.1 hb).1
  refine ⟨{ w with heap := w.heap.setIfInBounds B (.map (es.push { key := nodeV p, val := .int .i16 v, born := clock }) (clock + 1)) }, ?_, ⟨es.push { key := nodeV p, val := .int .i16 v, born := clock }, clock + 1, ?_, ?_⟩, ?_, ?_, rfl, rfl, rfl⟩
  rotate_left
  · simp [hlt]
  · rw [Array.toList_push]; exact he.snoc (p := (p, v)) rfl rfl
  · intro k hk; simp [Ne.symm hk]
  · simp
  · simp only [Instr.mapUpdate, Sem.run_bind, run_underlying Try.underlying107, Result.andThen_ok, hg, check_node, hq]
    exact hs
def idxC (K : List Int) (t : Int) : Int := if K.idxOf t < K.length then (K.idxOf t : Int) else -1
set_option maxRecDepth 100000 in
set_option maxHeartbeats 4000000 in
theorem idxC_any (va : Option Addr) (m cap : Nat) (K : List Int) (t : Int) (w : World) (hm : K.length = m) (h : SlUs w K (.slice va m cap)) (hmax : m ≤ 1000) (R : Int) (hR : idxC K t = R) :
    Calls Try.prog 75 #[.slice va m cap, .int .u64 t] w fun e w' => e = .returned (.int .i64 R) ∧ Below w.heap.size w w' := by
  have Hm := Lib.hid hm
  have HS := Lib.hid (fun (hp : 0 < K.length) => slUs_someN h hp)
  obtain ⟨ix, hix⟩ : ∃ ix, K.idxOf t = ix := ⟨_, rfl⟩
  have Hix := Lib.hid hix
  have hle : ix ≤ m := by rw [← hix, ← hm]; exact idx_le _ _
  have HR := Lib.hid hR
  clear hm h hix hR
  go_enter Try.func75, Try.ntmps75
  go_wp2
  go_loopw [5, 8] (fun _ z wr => ∃ a : Nat, a ≤ ix ∧ z = .int .i64 a ∧ Below w.heap.size w wr) (fun _ z _ => m - (intOf z).toNat)
  case atStart => exact ⟨0, Nat.zero_le _, rfl, Below.refl _ _⟩
  case round =>
    obtain ⟨a, ha, rfl, hb⟩ := hrel
    by_cases ham : a < m
    · have hkm : a < K.length := by rw [Hm.out]; exact ham
      obtain ⟨g, o, rfl, hc, hg, hl, -⟩ := HS.out (by omega)
      have cc := hc.below hb hg a hkm
      have lg := Nat.lt_of_lt_of_le hg hb.size
      obtain ⟨y, hy⟩ : ∃ y, K[a] = y := ⟨_, rfl⟩
      rw [hy] at cc
      have Hy := Lib.hid hy
      clear hc hy
      by_cases hyt : y = t
      · have hai : a = ix := by rw [← Hix.out]; exact idx_is hkm (by rw [Hix.out]; exact ha) (by rw [Hy.out]; exact hyt)
        subst hai
        obtain rfl : R = (a : Int) := by rw [← HR.out]; unfold idxC; rw [Hix.out, if_pos (by rw [Hm.out]; exact ham)]
        have hyt2 : (t == y) = true := by simpa using hyt.symm
        clear hyt
        go_wp2
        go_ret
        exact ⟨rfl, hb⟩
      · have hyt2 : (t == y) = false := by simpa using fun e => hyt e.symm
        have ha2 : a + 1 ≤ ix := by rw [← Hix.out]; exact idx_not hkm (by rw [Hix.out]; exact ha) (by rw [Hy.out]; exact hyt)
        clear hyt
        go_wp2
        exact ⟨⟨a + 1, ha2, by go_num, hb⟩, by simp [intOf]; omega⟩
    · obtain rfl : a = m := by omega
      obtain rfl : ix = a := by omega
      obtain rfl : R = -1 := by rw [← HR.out]; unfold idxC; rw [Hix.out, if_neg (by rw [Hm.out]; exact Nat.lt_irrefl _)]
      go_wp2
      go_ret
      exact ⟨rfl, hb⟩
/-- the map's places are those of the tables kept -/
def GInv (n : Nat) (K : List Int) (G : List (Nd × Int)) : Prop := ∀ p ∈ G, nodeOk n K.length p.1 = true ∧ K.idxOf (tabOf n K p.1) < K.length ∧ p.2 = (K.idxOf (tabOf n K p.1) : Int)
theorem GInv.push {n : Nat} {K : List Int} {G : List (Nd × Int)} (h : GInv n K G) (t : Int) : GInv n (K ++ [t]) G := by
  intro p hp
  obtain ⟨h1, h2, h3⟩ := h p hp
  rw [tabOf_app t rfl h1, idxOf_app h2]
  exact ⟨nodeOk_mono h1 (by simp), by simp; omega, h3⟩
theorem GInv.snoc {n : Nat} {K : List Int} {G : List (Nd × Int)} (h : GInv n K G) {y : Nd} (h1 : nodeOk n K.length y = true) (h2 : K.idxOf (tabOf n K y) < K.length) : GInv n K (G ++ [(y, (K.idxOf (tabOf n K y) : Int))]) := by
  intro p hp
  rcases List.mem_append.1 hp with hp | hp
  · exact h p hp
  · obtain rfl := List.mem_singleton.1 hp
    exact ⟨h1, h2, rfl⟩
structure KW (w : World) (Kp Mp n : Nat) (kv nv : Value) (K : List Int) (M : List Nd) (G : List (Nd × Int)) : Prop where
  k : w.ownsRow (Kp + 1) 39 1 kv K.length (flatUs K)
  m : w.ownsRow (Kp + 1) 48 3 nv M.length (flatNd M)
  o : w.heap[Kp]? = some (.cells #[.int .i8 (n : Int), kv, nv, .map (some Mp)] 109 (0, 0))
  g : NMapAt w Mp G
  ne : Mp < Kp
theorem KW.below {w w' : World} {Kp Mp n : Nat} {kv nv : Value} {K : List Int} {M : List Nd} {G : List (Nd × Int)} (h : KW w Kp Mp n kv nv K M G) (b : Below w.heap.size w w') : KW w' Kp Mp n kv nv K M G :=
  ⟨owns_below h.k b, owns_below h.m b, blk_below h.o b, h.g.below b, h.ne⟩
/-- but for the keeper all is as it was -/
structure KeptK (w w' : World) (Kp Mp : Nat) (kv nv : Value) : Prop where
  os : w'.os = w.os
  tape : w'.tape = w.tape
  output : w'.output = w.output
  size : w.heap.size ≤ w'.heap.size
  block : ∀ k, k < w.heap.size → k ≠ Kp → k ≠ Mp → kv.ownBlock ≠ some k → nv.ownBlock ≠ some k → w'.heap[k]? = w.heap[k]?
theorem KeptK.of_below {w w' : World} {Kp Mp : Nat} {kv nv : Value} (h : Below w.heap.size w w') : KeptK w w' Kp Mp kv nv := ⟨h.os, h.tape, h.output, h.size, fun k hk _ _ _ _ => h.block k hk⟩
theorem own_keptP {w w' : World} {b s n P : Nat} {e : TypeId} {v u : Value} {xs : List Value} (h : w.ownsRow b e s v n xs) (g : KeptP w w' P u) (hP : v.ownBlock ≠ some P) (hu : v.ownBlock = none ∨ v.ownBlock ≠ u.ownBlock) : w'.ownsRow b e s v n xs := by
  refine ⟨h.1, ?_⟩
  rcases h.2 with h2 | ⟨q, cap, cur, h1, h2, h3, r⟩
  · exact .inl h2
  · refine .inr ⟨q, cap, cur, h1, h2, ?_, r⟩
    subst h1
    have hq : (Value.slice (some ⟨q, 0, none⟩) n cap).ownBlock = some q := rfl
    rw [g.block q (blk_lt h3) (fun e => hP (by rw [hq, e])) (fun e => hu.elim (fun h => by rw [hq] at h; cases h) (fun h => h (by rw [hq, e])))]
    exact h3
theorem own_map {w w' : World} {b s n B : Nat} {e : TypeId} {v : Value} {xs : List Value} (h : w.ownsRow b e s v n xs) (g : ∀ k, k ≠ B → w'.heap[k]? = w.heap[k]?) (hb : B < b) : w'.ownsRow b e s v n xs := by
  refine ⟨h.1, ?_⟩
  rcases h.2 with h2 | ⟨q, cap, cur, h1, h2, h3, r⟩
  · exact .inl h2
  · exact .inr ⟨q, cap, cur, h1, h2, by rw [g q (by omega)]; exact h3, r⟩
def kK (K : List Int) (t : Int) : List Int := if K.idxOf t < K.length then K else K ++ [t]
def kM (K : List Int) (M : List Nd) (t : Int) (y : Nd) : List Nd := if K.idxOf t < K.length then M else M ++ [y]
set_option maxRecDepth 100000 in
set_option maxHeartbeats 8000000 in
theorem keep_any (Kp Mp n : Nat) (kv nv : Value) (K : List Int) (M : List Nd) (G : List (Nd × Int)) (y : Nd) (w : World) (h : KW w Kp Mp n kv nv K M G) (hn : 1 ≤ n ∧ n ≤ 6) (hy : nodeOk n K.length y = true) (hl : K.length ≤ 80) (hKM : K.length = M.length) (hG : GInv n K G) (t : Int) (ht : tabOf n K y = t) (ix : Nat) (hix : K.idxOf t = ix) :
    Calls Try.prog 71 #[.pointer (some ⟨Kp, 0, none⟩), .agg #[.int .i8 y.kind, .int .i16 y.a, .int .i16 y.b]] w fun e w' => e = .returned (.int .i16 (ix : Int)) ∧
      (∃ kv' nv' G', KW w' Kp Mp n kv' nv' (kK K t) (kM K M t y) G' ∧ GInv n (kK K t) G') ∧ KeptK w w' Kp Mp kv nv := by
  obtain ⟨ka, kc, rfl⟩ := owns_slice h.k
  obtain ⟨na, nc, rfl⟩ := owns_slice h.m
  obtain ⟨W, hW⟩ : ∃ W, w.alloc (.cells #[.int .i8 y.kind, .int .i16 y.a, .int .i16 y.b] 48) = W := ⟨_, rfl⟩
  have kW : Below w.heap.size w W := by rw [← hW]; exact kAlloc (Below.refl _ _) _
  have bX : W.heap[w.heap.size]? = some (.cells #[.int .i8 y.kind, .int .i16 y.a, .int .i16 y.b] 48 (0, 0)) := by rw [← hW]; exact heap_alloc_new _ _
  have hK1 := h.below kW
  have HKW := Lib.hid hK1
  have HK := Lib.hid kW
  have HW := Lib.hid hW
  have HH := Lib.hid h
  have Hix := Lib.hid hix
  obtain ⟨X, hX⟩ : ∃ X, w.heap.size = X := ⟨_, rfl⟩
  have hKX : Kp < X := by have := blk_lt h.o; omega
  have HNX := Lib.hid (fun k (e : (Value.slice na M.length nc).ownBlock = some k) => by have h2 := (owns_block h.m k e).2; rw [hX] at h2; exact h2)
  have HX := Lib.hid (Nat.le_of_eq hX)
  have HX2 := Lib.hid (Nat.le_of_eq hX.symm)
  rw [hX] at bX
  have HBX := Lib.hid bX
  have o3 : W.cell? ⟨Kp, 3, none⟩ = some (.map (some Mp)) := cell_of_row _ _ 3 _ _ _ hK1.o
  have x0 : W.cell? ⟨X, 0, none⟩ = some (.int .i8 y.kind) := cell_of_row _ _ 0 _ _ _ bX
  have x1 : W.cell? ⟨X, 1, none⟩ = some (.int .i16 y.a) := cell_of_row _ _ 1 _ _ _ bX
  have x2 : W.cell? ⟨X, 2, none⟩ = some (.int .i16 y.b) := cell_of_row _ _ 2 _ _ _ bX
  have lX := blk_lt bX
  have lK := blk_lt hK1.o
  have Ht := Lib.hid ht
  have HG := Lib.hid hG
  have Hy := Lib.hid hy
  have HKM := Lib.hid hKM
  have kD : Below W.heap.size W W.drew := Below.drew (Below.refl _ _)
  have HD := Lib.hid kD
  cases hg : asN G y with
  | some v =>
    have hl9 := lookup_hit y v W.drew Mp G (hK1.g.below kD) hg
    obtain ⟨g1, g2, g3⟩ := hG _ (asN_mem hg)
    simp only at g1 g2 g3
    rw [ht] at g2 g3
    unfold nodeV at hl9
    obtain rfl : v = (ix : Int) := by rw [g3, hix]
    have Hg2 := Lib.hid g2
    clear hix h hK1 bX kW hW ht hG hy hKM kD hg g1 g2 g3
    go_enter Try.func71, Try.ntmps71
    go_upto_region 1 with fail
    try rw [HW.out]
    try rw [hX]
    clear HW hX
    refine regionW_of_HN (fun W' => W'.cell? ⟨Kp, 3, none⟩ = some (.map (some Mp)) ∧ W'.cell? ⟨X, 0, none⟩ = some (.int .i8 y.kind) ∧ W'.cell? ⟨X, 1, none⟩ = some (.int .i16 y.a) ∧ W'.cell? ⟨X, 2, none⟩ = some (.int .i16 y.b)) (by kernel_rfl) ⟨o3, x0, x1, x2⟩ (fun hHeld => ?_)
    refine wpAnyH_take (i := 0) (v := .pointer (some ⟨Kp, 0, none⟩)) rfl (by kernel_rfl) (by kernel_rfl) (by kernel_rfl) (fun _ _ _ h => absurd h.1 (by simp)) (Or.inl ⟨by rfl, fun w7 hSw => ?_⟩) (by assumption) ?_
    · clear hSw
      go_simp
    try simp only [Act.put, List.setIfInBounds_toArray, List.set_cons_zero, List.set_cons_succ]
    refine wpAnyH_take (i := 1) (v := .pointer (some ⟨Kp, 0, none⟩)) rfl (by kernel_rfl) (by kernel_rfl) (by kernel_rfl) (fun _ _ _ h => absurd h.1 (by simp)) (Or.inl ⟨by rfl, fun w7 hSw => ?_⟩) (by assumption) ?_
    · clear hSw
      go_simp
    try simp only [Act.put, List.setIfInBounds_toArray, List.set_cons_zero, List.set_cons_succ]
    refine wpAnyH_take (i := 2) (v := .pointer (some ⟨Kp, 3, none⟩)) rfl (by kernel_rfl) (by kernel_rfl) (by kernel_rfl) (fun _ _ _ h => absurd h.1 (by simp)) (Or.inl ⟨by rfl, fun w7 hSw => ?_⟩) (by assumption) ?_
    · clear hSw
      go_simp
    try simp only [Act.put, List.setIfInBounds_toArray, List.set_cons_zero, List.set_cons_succ]
    refine wpAnyH_take (i := 3) (v := .map (some Mp)) rfl (by kernel_rfl) (by kernel_rfl) (by kernel_rfl) (fun _ _ _ h => absurd h.1 (by simp)) (Or.inl ⟨by rfl, fun w7 hSw => ?_⟩) (by assumption) ?_
    · obtain ⟨o3, x0, x1, x2⟩ := hSw
      go_simp
    try simp only [Act.put, List.setIfInBounds_toArray, List.set_cons_zero, List.set_cons_succ]
    refine wpAnyH_take (i := 4) (v := .agg #[.int .i8 y.kind, .int .i16 y.a, .int .i16 y.b]) rfl (by kernel_rfl) (by kernel_rfl) (by kernel_rfl) (fun _ _ _ h => absurd h.1 (by simp)) (Or.inl ⟨by rfl, fun w7 hSw => ?_⟩) (by assumption) ?_
    · obtain ⟨o3, x0, x1, x2⟩ := hSw
      go_simp
    try simp only [Act.put, List.setIfInBounds_toArray, List.set_cons_zero, List.set_cons_succ]
    refine wpAnyH_ready (rs := [5]) (by kernel_rfl) (by simp) ?_
    refine AllReadyH.cons rfl (fun K hK => ?_) AllReadyH.nil
    go_simp
    refine hK.out _ _ (by assumption) (fun hHeld => ?_)
    clear hK K
    refine wpAnyH_take (i := 6) (v := .tuple #[.int .i16 (ix : Int), .bool true]) rfl (by kernel_rfl) (by kernel_rfl) (by kernel_rfl) (fun _ _ _ h => absurd h.1 (by simp)) (Or.inl ⟨by rfl, fun w7 hSw => ?_⟩) (by assumption) ?_
    · clear hSw
      go_simp
    try simp only [Act.put, List.setIfInBounds_toArray, List.set_cons_zero, List.set_cons_succ]
    refine wpAnyH_take (i := 7) (v := .int .i16 (ix : Int)) rfl (by kernel_rfl) (by kernel_rfl) (by kernel_rfl) (fun _ _ _ h => absurd h.1 (by simp)) (Or.inl ⟨by rfl, fun w7 hSw => ?_⟩) (by assumption) ?_
    · clear hSw
      go_simp
    try simp only [Act.put, List.setIfInBounds_toArray, List.set_cons_zero, List.set_cons_succ]
    refine wpAnyH_take (i := 8) (v := .bool true) rfl (by kernel_rfl) (by kernel_rfl) (by kernel_rfl) (fun _ _ _ h => absurd h.1 (by simp)) (Or.inl ⟨by rfl, fun w7 hSw => ?_⟩) (by assumption) ?_
    · clear hSw
      go_simp
    try simp only [Act.put, List.setIfInBounds_toArray, List.set_cons_zero, List.set_cons_succ]
    refine wpAnyH_ready (rs := [9]) (by kernel_rfl) (by simp) ?_
    refine AllReadyH.cons rfl (fun K hK => ?_) AllReadyH.nil
    go_simp
    refine hK.out _ _ (by assumption) (fun hHeld => ?_)
    clear hK K
    refine wpAnyH_ready (rs := [10]) (by kernel_rfl) (by simp) ?_
    refine AllReadyH.cons rfl (fun K hK => ?_) AllReadyH.nil
    go_simp
    refine hK.out _ _ (by assumption) (fun hHeld => ?_)
    clear hK K
    refine wpAnyH_done (by kernel_rfl) ?_ _
    refine ⟨rfl, ?_⟩
    clear hHeld
    go_wp2
    go_ret
    exact ⟨rfl, ⟨.slice ka K.length kc, .slice na M.length nc, G, by unfold kK kM; rw [if_pos Hg2.out, if_pos Hg2.out]; exact HKW.out.below HD.out, by unfold kK; rw [if_pos Hg2.out]; exact HG.out⟩, KeptK.of_below (kTrans HK.out HD.out)⟩
  | none =>
    have hl9 := lookup_miss y W.drew Mp G (hK1.g.below kD) hg
    unfold nodeV at hl9
    have Hg := Lib.hid hg
    clear hix h hK1 bX kW hW ht hG hy hKM kD hg
    go_enter Try.func71, Try.ntmps71
    go_upto_region 1 with fail
    try rw [HW.out]
    try rw [hX]
    clear HW hX
    refine regionW_of_HN (fun W' => W'.cell? ⟨Kp, 3, none⟩ = some (.map (some Mp)) ∧ W'.cell? ⟨X, 0, none⟩ = some (.int .i8 y.kind) ∧ W'.cell? ⟨X, 1, none⟩ = some (.int .i16 y.a) ∧ W'.cell? ⟨X, 2, none⟩ = some (.int .i16 y.b)) (by kernel_rfl) ⟨o3, x0, x1, x2⟩ (fun hHeld => ?_)
    refine wpAnyH_take (i := 0) (v := .pointer (some ⟨Kp, 0, none⟩)) rfl (by kernel_rfl) (by kernel_rfl) (by kernel_rfl) (fun _ _ _ h => absurd h.1 (by simp)) (Or.inl ⟨by rfl, fun w7 hSw => ?_⟩) (by assumption) ?_
    · clear hSw
      go_simp
    try simp only [Act.put, List.setIfInBounds_toArray, List.set_cons_zero, List.set_cons_succ]
    refine wpAnyH_take (i := 1) (v := .pointer (some ⟨Kp, 0, none⟩)) rfl (by kernel_rfl) (by kernel_rfl) (by kernel_rfl) (fun _ _ _ h => absurd h.1 (by simp)) (Or.inl ⟨by rfl, fun w7 hSw => ?_⟩) (by assumption) ?_
    · clear hSw
      go_simp
    try simp only [Act.put, List.setIfInBounds_toArray, List.set_cons_zero, List.set_cons_succ]
    refine wpAnyH_take (i := 2) (v := .pointer (some ⟨Kp, 3, none⟩)) rfl (by kernel_rfl) (by kernel_rfl) (by kernel_rfl) (fun _ _ _ h => absurd h.1 (by simp)) (Or.inl ⟨by rfl, fun w7 hSw => ?_⟩) (by assumption) ?_
    · clear hSw
      go_simp
    try simp only [Act.put, List.setIfInBounds_toArray, List.set_cons_zero, List.set_cons_succ]
    refine wpAnyH_take (i := 3) (v := .map (some Mp)) rfl (by kernel_rfl) (by kernel_rfl) (by kernel_rfl) (fun _ _ _ h => absurd h.1 (by simp)) (Or.inl ⟨by rfl, fun w7 hSw => ?_⟩) (by assumption) ?_
    · obtain ⟨o3, x0, x1, x2⟩ := hSw
      go_simp
    try simp only [Act.put, List.setIfInBounds_toArray, List.set_cons_zero, List.set_cons_succ]
    refine wpAnyH_take (i := 4) (v := .agg #[.int .i8 y.kind, .int .i16 y.a, .int .i16 y.b]) rfl (by kernel_rfl) (by kernel_rfl) (by kernel_rfl) (fun _ _ _ h => absurd h.1 (by simp)) (Or.inl ⟨by rfl, fun w7 hSw => ?_⟩) (by assumption) ?_
    · obtain ⟨o3, x0, x1, x2⟩ := hSw
      go_simp
    try simp only [Act.put, List.setIfInBounds_toArray, List.set_cons_zero, List.set_cons_succ]
    refine wpAnyH_ready (rs := [5]) (by kernel_rfl) (by simp) ?_
    refine AllReadyH.cons rfl (fun K hK => ?_) AllReadyH.nil
    go_simp
    refine hK.out _ _ (by assumption) (fun hHeld => ?_)
    clear hK K
    refine wpAnyH_take (i := 6) (v := .tuple #[.int .i16 0, .bool false]) rfl (by kernel_rfl) (by kernel_rfl) (by kernel_rfl) (fun _ _ _ h => absurd h.1 (by simp)) (Or.inl ⟨by rfl, fun w7 hSw => ?_⟩) (by assumption) ?_
    · clear hSw
      go_simp
    try simp only [Act.put, List.setIfInBounds_toArray, List.set_cons_zero, List.set_cons_succ]
    refine wpAnyH_take (i := 7) (v := .int .i16 0) rfl (by kernel_rfl) (by kernel_rfl) (by kernel_rfl) (fun _ _ _ h => absurd h.1 (by simp)) (Or.inl ⟨by rfl, fun w7 hSw => ?_⟩) (by assumption) ?_
    · clear hSw
      go_simp
    try simp only [Act.put, List.setIfInBounds_toArray, List.set_cons_zero, List.set_cons_succ]
    refine wpAnyH_take (i := 8) (v := .bool false) rfl (by kernel_rfl) (by kernel_rfl) (by kernel_rfl) (fun _ _ _ h => absurd h.1 (by simp)) (Or.inl ⟨by rfl, fun w7 hSw => ?_⟩) (by assumption) ?_
    · clear hSw
      go_simp
    try simp only [Act.put, List.setIfInBounds_toArray, List.set_cons_zero, List.set_cons_succ]
    refine wpAnyH_ready (rs := [9]) (by kernel_rfl) (by simp) ?_
    refine AllReadyH.cons rfl (fun K hK => ?_) AllReadyH.nil
    go_simp
    refine hK.out _ _ (by assumption) (fun hHeld => ?_)
    clear hK K
    refine wpAnyH_ready (rs := [10]) (by kernel_rfl) (by simp) ?_
    refine AllReadyH.cons rfl (fun K hK => ?_) AllReadyH.nil
    go_simp
    refine hK.out _ _ (by assumption) (fun hHeld => ?_)
    clear hK K
    refine wpAnyH_done (by kernel_rfl) ?_ _
    refine ⟨rfl, ?_⟩
    clear hHeld
    go_upto_region 4 with fail
    have HM1 := Lib.hid (HKW.out.below HD.out)
    have HX1 := Lib.hid (blk_below HBX.out HD.out)
    have HB1 := Lib.hid (kTrans HK.out HD.out)
    generalize W.drew = w1 at HM1 HX1 HB1 ⊢
    clear o3 x0 x1 x2 lX lK hl9 HKW HBX HD HK
    have o0 : w1.cell? ⟨Kp, 0, none⟩ = some (.int .i8 (n : Int)) := cell_of_row _ _ 0 _ _ _ HM1.out.o
    have o1 : w1.cell? ⟨Kp, 1, none⟩ = some (.slice ka K.length kc) := cell_of_row _ _ 1 _ _ _ HM1.out.o
    have x0 : w1.cell? ⟨X, 0, none⟩ = some (.int .i8 y.kind) := cell_of_row _ _ 0 _ _ _ HX1.out
    have x1 : w1.cell? ⟨X, 1, none⟩ = some (.int .i16 y.a) := cell_of_row _ _ 1 _ _ _ HX1.out
    have x2 : w1.cell? ⟨X, 2, none⟩ = some (.int .i16 y.b) := cell_of_row _ _ 2 _ _ _ HX1.out
    have lX := blk_lt HX1.out
    have lK := blk_lt HM1.out.o
    go_still_tail 5, (by kernel_rfl)
    change wpList _ _ _ _ _ w1.drew
    have kd : Below w1.heap.size w1 w1.drew := Below.drew (Below.refl _ _)
    have HM2 := Lib.hid (HM1.out.below kd)
    have HX2 := Lib.hid (blk_below HX1.out kd)
    have HB2 := Lib.hid (kTrans HB1.out kd)
    generalize w1.drew = w2 at HM2 HX2 HB2 ⊢
    clear o0 o1 x0 x1 x2 lX lK kd HM1 HX1 HB1
    have hTA := tableOf_any n ka K.length kc K y w2 hn rfl hl (slUs_of_owns HM2.out.k) Hy.out
    rw [Ht.out] at hTA
    have HTA := Lib.hid hTA
    clear hTA
    go_wp2_with fail
    refine (HTA.out).mono ?_
    rintro e w3 ⟨rfl, hb3⟩
    have HM3 := Lib.hid (HM2.out.below hb3)
    have HX3 := Lib.hid (blk_below HX2.out hb3)
    have HB3 := Lib.hid (kTrans HB2.out hb3)
    clear HTA hb3 HM2 HX2 HB2
    have o1 : w3.cell? ⟨Kp, 1, none⟩ = some (.slice ka K.length kc) := cell_of_row _ _ 1 _ _ _ HM3.out.o
    have lK := blk_lt HM3.out.o
    obtain ⟨R, hR⟩ : ∃ R, idxC K t = R := ⟨_, rfl⟩
    have HIC := Lib.hid (idxC_any ka K.length kc K t w3 rfl (slUs_of_owns HM3.out.k) (by omega) R hR)
    have hle : ix ≤ K.length := by rw [← Hix.out]; exact idx_le _ _
    have hix := Hix.out
    by_cases hlt : ix < K.length
    · obtain rfl : R = (ix : Int) := by rw [← hR]; unfold idxC; rw [hix, if_pos hlt]
      have hw16 : IntKind.i16.wrap (ix : Int) = ix := IntWalk.i16_in _ (by omega)
      clear hR hix
      go_wp2_with fail
      refine (HIC.out).mono ?_
      rintro e w4 ⟨rfl, hb4⟩
      have HM4 := Lib.hid (HM3.out.below hb4)
      have HX4 := Lib.hid (blk_below HX3.out hb4)
      have HB4 := Lib.hid (kTrans HB3.out hb4)
      clear HIC hb4 HM3 HX3 HB3 o1 lK
      go_upto_region 9 with fail
      have o3 : w4.cell? ⟨Kp, 3, none⟩ = some (.map (some Mp)) := cell_of_row _ _ 3 _ _ _ HM4.out.o
      have x0 : w4.cell? ⟨X, 0, none⟩ = some (.int .i8 y.kind) := cell_of_row _ _ 0 _ _ _ HX4.out
      have x1 : w4.cell? ⟨X, 1, none⟩ = some (.int .i16 y.a) := cell_of_row _ _ 1 _ _ _ HX4.out
      have x2 : w4.cell? ⟨X, 2, none⟩ = some (.int .i16 y.b) := cell_of_row _ _ 2 _ _ _ HX4.out
      have lX := blk_lt HX4.out
      have lK := blk_lt HM4.out.o
      go_still_tail 6, (by kernel_rfl)
      change wpList _ _ _ _ _ w4.drew
      have kd : Below w4.heap.size w4 w4.drew := Below.drew (Below.refl _ _)
      have HM5 := Lib.hid (HM4.out.below kd)
      have HB5 := Lib.hid (kTrans HB4.out kd)
      generalize w4.drew = w5 at HM5 HB5 ⊢
      obtain ⟨w6, hrun, hm6, hk6, he6⟩ := update_node y (ix : Int) w5 Mp G HM5.out.g Hg.out
      unfold nodeV at hrun
      clear o3 x0 x1 x2 lX lK kd
      go_wp2
      go_ret
      have hGN : GInv n K (G ++ [(y, (ix : Int))]) := by have h := HG.out.snoc Hy.out (by rw [Ht.out, Hix.out]; exact hlt); rw [Ht.out, Hix.out] at h; exact h
      exact ⟨rfl, ⟨_, _, G ++ [(y, (ix : Int))], by unfold kK kM; rw [Hix.out, if_pos hlt, if_pos hlt]; exact ⟨own_map HM5.out.k hk6 (by have := HM5.out.ne; omega), own_map HM5.out.m hk6 (by have := HM5.out.ne; omega), (hk6 Kp (by have := HM5.out.ne; omega)).trans HM5.out.o, hm6, HM5.out.ne⟩, by unfold kK; rw [Hix.out, if_pos hlt]; exact hGN⟩,
        ⟨he6.2.1.trans HB5.out.os, he6.2.2.1.trans HB5.out.tape, he6.2.2.2.trans HB5.out.output, by rw [he6.1]; exact HB5.out.size, fun k hk h1 h2 _ _ => (hk6 k h2).trans (HB5.out.block k hk)⟩⟩
    · obtain rfl : R = -1 := by rw [← hR]; unfold idxC; rw [hix, if_neg hlt]
      obtain rfl : ix = K.length := by omega
      clear hR hix
      go_wp2_with fail
      refine (HIC.out).mono ?_
      rintro e w4 ⟨rfl, hb4⟩
      have HM4 := Lib.hid (HM3.out.below hb4)
      have HX4 := Lib.hid (blk_below HX3.out hb4)
      have HB4 := Lib.hid (kTrans HB3.out hb4)
      clear HIC hb4 HM3 HX3 HB3 o1 lK
      have lK := blk_lt HM4.out.o
      have HPU := Lib.hid (putU_at Kp 1 (Kp + 1) _ 109 (.slice ka K.length kc) K t w4 HM4.out.o rfl (by decide) HM4.out.k (by omega) (by omega))
      go_wp2_with fail
      refine (HPU.out).mono ?_
      rintro e w5 ⟨rfl, ⟨v5, hO5, hk5⟩, hP5⟩
      have hm5 := own_keptP HM4.out.m hP5 (row_block HM4.out.m HM4.out.o (by decide)) (rows_apart HM4.out.m HM4.out.k (by decide))
      have hg5 := HM4.out.g.of_block (hP5.block Mp HM4.out.g.lt (by have := HM4.out.ne; omega) (fun e => by have := (owns_block HM4.out.k Mp e).1; have := HM4.out.ne; omega))
      have hX5 := (hP5.block X (blk_lt HX4.out) (by omega) (row_block HM4.out.k HX4.out (by decide))).trans HX4.out
      obtain ⟨k5, kc5, rfl⟩ := owns_slice hk5
      have HM5 := Lib.hid (show KW w5 Kp Mp n (.slice k5 (K ++ [t]).length kc5) (.slice na M.length nc) (K ++ [t]) M G from ⟨hk5, hm5, by rw [hO5]; rfl, hg5, HM4.out.ne⟩)
      have HX5 := Lib.hid hX5
      have HP5 := Lib.hid hP5
      have hz5 := hP5.size
      clear HPU hO5 hk5 hm5 hg5 hX5 hP5 lK
      have x0 : w5.cell? ⟨X, 0, none⟩ = some (.int .i8 y.kind) := cell_of_row _ _ 0 _ _ _ HX5.out
      have x1 : w5.cell? ⟨X, 1, none⟩ = some (.int .i16 y.a) := cell_of_row _ _ 1 _ _ _ HX5.out
      have x2 : w5.cell? ⟨X, 2, none⟩ = some (.int .i16 y.b) := cell_of_row _ _ 2 _ _ _ HX5.out
      have lX := blk_lt HX5.out
      have lK := blk_lt HM5.out.o
      go_wp2
      go_still_tail 4, (by kernel_rfl)
      change wpList _ _ _ _ _ w5.drew
      have kd : Below w5.heap.size w5 w5.drew := Below.drew (Below.refl _ _)
      have HM6 := Lib.hid (HM5.out.below kd)
      have HX6 := Lib.hid (blk_below HX5.out kd)
      have HF6 := Lib.hid (show KeptP w4 w5.drew Kp (.slice ka K.length kc) from ⟨HP5.out.os, HP5.out.tape, HP5.out.output, HP5.out.size, HP5.out.block⟩)
      have hz6 : w4.heap.size ≤ w5.drew.heap.size := hz5
      generalize w5.drew = w6 at HM6 HX6 HF6 hz6 ⊢
      clear x0 x1 x2 lX lK kd HM5 HX5 HP5 hz5
      have lK := blk_lt HM6.out.o
      have HPN := Lib.hid (putN_at Kp 2 (Kp + 1) _ 109 (.slice na M.length nc) M y w6 HM6.out.o rfl (by decide) HM6.out.m (by omega) (by have := HKM.out; omega))
      go_wp2_with fail
      refine (HPN.out).mono ?_
      rintro e w7 ⟨rfl, ⟨v7, hO7, hm7⟩, hP7⟩
      have hk7 := own_keptP HM6.out.k hP7 (row_block HM6.out.k HM6.out.o (by decide)) (rows_apart HM6.out.k HM6.out.m (by decide))
      have hg7 := HM6.out.g.of_block (hP7.block Mp HM6.out.g.lt (by have := HM6.out.ne; omega) (fun e => by have := (owns_block HM6.out.m Mp e).1; have := HM6.out.ne; omega))
      have hX7 := (hP7.block X (blk_lt HX6.out) (by omega) (fun e => Nat.lt_irrefl _ (HNX.out X e))).trans HX6.out
      obtain ⟨k7, kc7, rfl⟩ := owns_slice hm7
      have HM7 := Lib.hid (show KW w7 Kp Mp n (.slice k5 (K ++ [t]).length kc5) (.slice k7 (M ++ [y]).length kc7) (K ++ [t]) (M ++ [y]) G from ⟨hk7, hm7, by rw [hO7]; rfl, hg7, HM6.out.ne⟩)
      have HX7 := Lib.hid hX7
      have HP7 := Lib.hid hP7
      have hz7 := hP7.size
      have hmk : M.length = K.length := HKM.out.symm
      rw [hmk]
      clear HPN hO7 hm7 hk7 hg7 hX7 hP7 lK hmk
      have hw16 : IntKind.i16.wrap (K.length : Int) = K.length := IntWalk.i16_in _ (by omega)
      go_upto_region 9 with fail
      have o3 : w7.cell? ⟨Kp, 3, none⟩ = some (.map (some Mp)) := cell_of_row _ _ 3 _ _ _ HM7.out.o
      have x0 : w7.cell? ⟨X, 0, none⟩ = some (.int .i8 y.kind) := cell_of_row _ _ 0 _ _ _ HX7.out
      have x1 : w7.cell? ⟨X, 1, none⟩ = some (.int .i16 y.a) := cell_of_row _ _ 1 _ _ _ HX7.out
      have x2 : w7.cell? ⟨X, 2, none⟩ = some (.int .i16 y.b) := cell_of_row _ _ 2 _ _ _ HX7.out
      have lX := blk_lt HX7.out
      have lK := blk_lt HM7.out.o
      go_still_tail 6, (by kernel_rfl)
      change wpList _ _ _ _ _ w7.drew
      have kd : Below w7.heap.size w7 w7.drew := Below.drew (Below.refl _ _)
      have HM8 := Lib.hid (HM7.out.below kd)
      have HP8 := Lib.hid (show KeptP w6 w7.drew Kp (.slice na M.length nc) from ⟨HP7.out.os, HP7.out.tape, HP7.out.output, HP7.out.size, HP7.out.block⟩)
      generalize w7.drew = w8 at HM8 HP8 ⊢
      obtain ⟨w6, hrun, hm6, hk6, he6⟩ := update_node y (K.length : Int) w8 Mp G HM8.out.g Hg.out
      unfold nodeV at hrun
      clear o3 x0 x1 x2 lX lK kd
      go_wp2
      go_ret
      have hnt : ¬ K.idxOf t < K.length := by rw [Hix.out]; exact Nat.lt_irrefl _
      have hi2 : (K ++ [t]).idxOf (tabOf n (K ++ [t]) y) = K.length := by rw [tabOf_app t rfl Hy.out, Ht.out, idxOf_new hnt]
      have hGN : GInv n (K ++ [t]) (G ++ [(y, (K.length : Int))]) := by
        have h := (HG.out.push t).snoc (nodeOk_mono Hy.out (show K.length ≤ (K ++ [t]).length by simp)) (by rw [hi2]; simp)
        rw [hi2] at h
        exact h
      exact ⟨rfl, ⟨_, _, G ++ [(y, (K.length : Int))], by unfold kK kM; rw [if_neg hnt, if_neg hnt]; exact ⟨own_map HM8.out.k hk6 (by have := HM8.out.ne; omega), own_map HM8.out.m hk6 (by have := HM8.out.ne; omega), (hk6 Kp (by have := HM8.out.ne; omega)).trans HM8.out.o, hm6, HM8.out.ne⟩, by unfold kK; rw [if_neg hnt]; exact hGN⟩,
        ⟨he6.2.1.trans (HP8.out.os.trans (HF6.out.os.trans HB4.out.os)), he6.2.2.1.trans (HP8.out.tape.trans (HF6.out.tape.trans HB4.out.tape)), he6.2.2.2.trans (HP8.out.output.trans (HF6.out.output.trans HB4.out.output)), by rw [he6.1]; exact Nat.le_trans HB4.out.size (Nat.le_trans HF6.out.size HP8.out.size), fun k hk h1 h2 h3 h4 => (hk6 k h2).trans ((HP8.out.block k (Nat.lt_of_lt_of_le (Nat.lt_of_lt_of_le hk HB4.out.size) HF6.out.size) h1 h4).trans ((HF6.out.block k (Nat.lt_of_lt_of_le hk HB4.out.size) h1 h3).trans (HB4.out.block k hk)))⟩⟩
end Go.Proofs.Ytdnjamlibnmpfaa
