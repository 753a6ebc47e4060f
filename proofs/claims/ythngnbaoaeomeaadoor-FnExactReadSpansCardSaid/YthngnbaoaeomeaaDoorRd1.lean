/- Reading texts: the calls of the program. -/
import Derived.Test.YthngnbaoaeomeaaDoorTrL
import Derived.Test.YthngnbaoaeomeaaDoorRd0
import Derived.Test.YthngnbaoaeomeaaDoorTx2
import Derived.Test.YthngnbaoaeomeaaDoorTw
import Derived.Shelf.Strings.SplitCore
namespace Go.Proofs.YthngnbaoaeomeaaDoor
open Go.ChangeShapes Go.WideShapes Go.ChangeAt Go.RowKit Go.Joins Go.Deep
set_option linter.unusedVariables false
set_option linter.unusedSimpArgs false

def StAt (w : World) (b o : Nat) (ws : List (List UInt8)) : Prop := ∀ (j : Nat) x, ws[j]? = some x → w.cell? ⟨b, o + j, none⟩ = some (.string (bsT x))
theorem StAt.below {w w' : World} {b o : Nat} {ws : List (List UInt8)} (h : StAt w b o ws) (g : Below w.heap.size w w') (hl : b < w.heap.size) : StAt w' b o ws :=
  fun j x hx => (g.cell (p := ⟨b, _, none⟩) hl).trans (h j x hx)
theorem StAt.drop {w : World} {b o : Nat} {ws : List (List UInt8)} (h : StAt w b o ws) (k : Nat) : StAt w b (o + k) (ws.drop k) :=
  fun j x hx => by rw [List.getElem?_drop] at hx; rw [Nat.add_assoc]; exact h _ x hx
theorem StAt.take {w : World} {b o : Nat} {ws : List (List UInt8)} (h : StAt w b o ws) (k : Nat) : StAt w b o (ws.take k) :=
  fun j x hx => h j x (by
    by_cases hj : j < k
    · rwa [List.getElem?_take_of_lt hj] at hx
    · rw [List.getElem?_eq_none (by rw [List.length_take]; omega)] at hx; cases hx)
def strRow (ws : List (List UInt8)) : Array Value := (ws.map fun x => Value.string (bsT x)).toArray
theorem StAt.of {w : World} {b : Nat} {T : TypeId} {fr : Nat × Nat} {ws : List (List UInt8)} (h : w.heap[b]? = some (.cells (strRow ws) T fr)) : StAt w b 0 ws := by
  intro j x hx
  rw [Nat.zero_add]
  refine cell_of_row _ _ j _ _ _ h |>.trans ?_
  unfold strRow
  rw [List.getElem?_toArray, List.getElem?_map, hx]
  rfl
theorem size_list (s : ByteArray) : s.size = s.data.toList.length := Lib.size_eq s
theorem toL_bsT (l : List UInt8) : (bsT l).toList = l := by rw [Lib.toList_data, bsT_list]
theorem hi9s : (Tryd.prog.info? 9).map (fun i => (i.zero, i.size, i.bytes)) = some (some (.string ByteArray.empty), 1, 16) := by kernel_rfl
theorem bytes_one (c : UInt8) : (⟨#[c]⟩ : ByteArray) = bsT [c] := rfl
theorem genSplit_one (s : ByteArray) (c : UInt8) (w : World) (hs : s.size < 4294967281) (n : Nat) (hn : (spl c s.data.toList).length = n) :
    Calls Tryd.prog 84 #[.string s, .string (bsT [c]), .int .i64 0, .int .i64 (-1)] w fun e w' => e = .returned (.slice (some ⟨w.heap.size, 0, none⟩) n n) ∧ w' = w.alloc (.cells (strRow (spl c s.data.toList)) 9) := by
  have h1 : 1 ≤ (bsT [c]).size := Nat.le_refl 1
  have hlen := Lib.splitB_all (bsT [c]) h1 0 _ s rfl
  have hle := Lib.countB_le (bsT [c]) h1 s.size s (Nat.le_refl _)
  have hix : ∀ x : ByteArray, Lib.indexByte x.data.toList c = Lib.indexB x (bsT [c]) := fun x => (Lib.index_one x.data.toList c).symm
  have hct : Lib.countByte s.data.toList c = Lib.countB s (bsT [c]) := (Lib.count_one c s.data.toList).symm
  have hC : Calls Tryd.prog 102 #[.string s, .string (bsT [c])] w fun e w' => e = .returned (.int .i64 (Lib.countB s (bsT [c]))) ∧ w' = w := by
    have h := strings_Count_one s c w
    rw [hct] at h
    exact h
  have hI : ∀ (x : ByteArray) (cs : Array Value), x.size ≤ s.size → Calls Tryd.prog 103 #[.string x, .string (bsT [c])] (w.alloc (.cells cs 9)) fun e w' => e = .returned (.int .i64 (Lib.indexB x (bsT [c]))) ∧ w' = w.alloc (.cells cs 9) := fun x cs _ => by
    have h := strings_Index_one x c (w.alloc (.cells cs 9))
    rw [hix] at h
    exact h
  have key := Any.strings_genSplit_core lays221 hi9s s (bsT [c]) 0 (-1) (Lib.countB s (bsT [c]) + 1) w hs h1 (Nat.zero_le _) hI hC (by decide) (by decide) (by rw [if_pos (by decide)]; omega)
  rw [Nat.add_sub_cancel, hlen] at key
  have e2 : Lib.cellsOf (Lib.splitB (bsT [c]) 0 (Lib.countB s (bsT [c])) s) (Lib.countB s (bsT [c]) + 1) = strRow (spl c s.data.toList) := by
    rw [← hlen, Lib.cellsOf_full, splB2]; rfl
  have e3 : Lib.countB s (bsT [c]) + 1 = n := by rw [← hlen, ← hn, ← splB, List.length_map]
  rw [e2, e3] at key
  exact key
set_option maxHeartbeats 1000000 in
theorem split_any (l : List UInt8) (c : UInt8) (w : World) (hs : l.length ≤ 2000000) (n : Nat) (hn : (spl c l).length = n) :
    Calls Tryd.prog 58 #[.string (bsT l), .string (bsT [c])] w fun e w' => e = .returned (.slice (some ⟨w.heap.size, 0, none⟩) n n) ∧ w'.heap[w.heap.size]? = some (.cells (strRow (spl c l)) 9 (0, 0)) ∧ Below w.heap.size w w' := by
  have h0 : (bsT l).data.toList = l := bsT_list l
  have key := genSplit_one (bsT l) c w (by rw [bsT_size]; omega) n (by rw [h0]; exact hn)
  rw [h0] at key
  have HK := Lib.hid key
  clear key h0 hn
  go_enter Tryd.func58, Tryd.ntmps58
  go_wp2_with fail
  refine HK.out.mono ?_
  rintro e w1 ⟨rfl, h1⟩
  have hb : Below w.heap.size w w1 := by rw [h1]; exact kAlloc (Below.refl _ _) _
  have hr : w1.heap[w.heap.size]? = some (.cells (strRow (spl c l)) 9 (0, 0)) := by rw [h1]; exact heap_alloc_new _ _
  have HB := Lib.hid hb
  have HR := Lib.hid hr
  clear hb hr h1 HK
  go_wp2
  go_ret
  exact ⟨rfl, HR.out, HB.out⟩
theorem parse_bounds {B : Nat} (hB : B = 8 ∨ B = 16) {l : List UInt8} {v : Int} (h : Lib.parseIntB B l = .ok v) : -(2 ^ (B - 1) : Nat) ≤ v ∧ v < (2 ^ (B - 1) : Nat) := by
  unfold Lib.parseIntB at h
  split at h
  · cases h
  · rename_i c r
    simp only at h
    split at h
    · cases h
    · cases h
    · rename_i u hu
      split at h
      · cases h
      · rename_i h1
        split at h
        · cases h
        · rename_i h2
          injection h with h
          have hpos := Nat.two_pow_pos (B - 1)
          by_cases hn : c.toNat = 45
          · rw [if_pos hn] at h
            have : ¬ 2 ^ (B - 1) < u := fun h3 => h2 ⟨hn, h3⟩
            omega
          · rw [if_neg hn] at h
            have : ¬ 2 ^ (B - 1) ≤ u := fun h3 => h1 ⟨hn, h3⟩
            omega
/-- the library's two sentinels lie there -/
structure ErrAt (w : World) : Prop where
  syn : ∃ te pe, w.cell? ⟨4, 0, none⟩ = some (.iface te pe)
  rng : ∃ te pe, w.cell? ⟨5, 0, none⟩ = some (.iface te pe)
theorem ErrAt.below {w w' : World} (h : ErrAt w) (g : Below w.heap.size w w') : ErrAt w' := by
  obtain ⟨⟨t1, p1, h1⟩, t2, p2, h2⟩ := h
  exact ⟨⟨t1, p1, (g.cell (World.block_lt_of_cell? w _ h1)).trans h1⟩, t2, p2, (g.cell (World.block_lt_of_cell? w _ h2)).trans h2⟩
theorem bytes_below {w w' : World} {s : ByteArray} {t : TypeId} (h : w' = w ∨ ∃ s, w' = Lib.bytesWorld w t s) : Below w.heap.size w w' := by
  rcases h with rfl | ⟨s, rfl⟩
  · exact Below.refl _ _
  · exact Lib.bytesWorld_below _ _ _
theorem parse8_yes (l : List UInt8) (w : World) (hs : l.length ≤ 2000000) (n : Int) (h : Lib.parseIntB 8 l = .ok n) :
    Calls Tryd.prog 86 #[.string (bsT l), .int .i64 10, .int .i64 8] w fun e w' => e = .returned (.tuple #[.int .i64 n, .nilIface]) ∧ Below w.heap.size w w' :=
  (strconv_ParseInt_10_at8_ok (bsT l) (by rw [bsT_size]; omega) n (by rw [bsT_list]; exact h) w).mono fun e w' h => ⟨h.1, bytes_below (s := ⟨#[]⟩) h.2⟩
theorem parse8_no (l : List UInt8) (w : World) (hs : l.length ≤ 2000000) (h : ∀ n, Lib.parseIntB 8 l ≠ .ok n) (hE : ErrAt w) :
    Calls Tryd.prog 86 #[.string (bsT l), .int .i64 10, .int .i64 8] w fun e w' => ∃ n T a, e = .returned (.tuple #[.int .i64 n, .iface T (.pointer (some a))]) ∧ Below w.heap.size w w' := by
  obtain ⟨⟨t1, p1, h1⟩, t2, p2, h2⟩ := hE
  cases hp : Lib.parseIntB 8 l with
  | ok n => exact absurd hp (h n)
  | «syntax» => exact (strconv_ParseInt_10_at8_syntax (bsT l) (by rw [bsT_size]; omega) (by rw [bsT_list]; exact hp) _ w h1 (.inr ⟨_, _, rfl⟩)).mono fun e w' ⟨N, h, _, _, hb⟩ => ⟨_, _, _, h, hb⟩
  | range => exact (strconv_ParseInt_10_at8_range (bsT l) (by rw [bsT_size]; omega) (by rw [bsT_list]; exact hp) _ w h2 (.inr ⟨_, _, rfl⟩)).mono fun e w' ⟨N, h, _, _, hb⟩ => ⟨_, _, _, h, hb⟩
theorem parse16_yes (l : List UInt8) (w : World) (hs : l.length ≤ 2000000) (n : Int) (h : Lib.parseIntB 16 l = .ok n) :
    Calls Tryd.prog 86 #[.string (bsT l), .int .i64 10, .int .i64 16] w fun e w' => e = .returned (.tuple #[.int .i64 n, .nilIface]) ∧ Below w.heap.size w w' :=
  (strconv_ParseInt_10_at16_ok (bsT l) (by rw [bsT_size]; omega) n (by rw [bsT_list]; exact h) w).mono fun e w' h => ⟨h.1, bytes_below (s := ⟨#[]⟩) h.2⟩
theorem parse16_no (l : List UInt8) (w : World) (hs : l.length ≤ 2000000) (h : ∀ n, Lib.parseIntB 16 l ≠ .ok n) (hE : ErrAt w) :
    Calls Tryd.prog 86 #[.string (bsT l), .int .i64 10, .int .i64 16] w fun e w' => ∃ n T a, e = .returned (.tuple #[.int .i64 n, .iface T (.pointer (some a))]) ∧ Below w.heap.size w w' := by
  obtain ⟨⟨t1, p1, h1⟩, t2, p2, h2⟩ := hE
  cases hp : Lib.parseIntB 16 l with
  | ok n => exact absurd hp (h n)
  | «syntax» => exact (strconv_ParseInt_10_at16_syntax (bsT l) (by rw [bsT_size]; omega) (by rw [bsT_list]; exact hp) _ w h1 (.inr ⟨_, _, rfl⟩)).mono fun e w' ⟨N, h, _, _, hb⟩ => ⟨_, _, _, h, hb⟩
  | range => exact (strconv_ParseInt_10_at16_range (bsT l) (by rw [bsT_size]; omega) (by rw [bsT_list]; exact hp) _ w h2 (.inr ⟨_, _, rfl⟩)).mono fun e w' ⟨N, h, _, _, hb⟩ => ⟨_, _, _, h, hb⟩
/-- rows of int8 as functions of the index -/
structure MRow (w : World) (g n : Nat) (F : Nat → Int) : Prop where
  lt : g < w.heap.size
  at_ : ∀ k, k < n → w.cell? ⟨g, k, none⟩ = some (.int .i8 (F k))
  fz : ∀ j, w.frozen? ⟨g, j, none⟩ = false
theorem MRow.below {w w' : World} {g n : Nat} {F : Nat → Int} (h : MRow w g n F) (b : Below w.heap.size w w') : MRow w' g n F :=
  ⟨Nat.lt_of_lt_of_le h.lt b.size, fun k hk => (b.cell (p := ⟨g, k, none⟩) h.lt).trans (h.at_ k hk), fun j => (b.frozen (p := ⟨g, j, none⟩) h.lt).trans (h.fz j)⟩
theorem MRow.put {w : World} {g n k : Nat} {F G : Nat → Int} {x : Int} (h : MRow w g n F) (hk : k < n) (hx : G k = x) (e : ∀ i, i < n → i ≠ k → F i = G i) : MRow (w.setCell ⟨g, k, none⟩ (.int .i8 x)) g n G := by
  refine ⟨by simpa [World.setCell] using h.lt, fun i hi => ?_, fun i => by rw [World.frozen?_setCell]; exact h.fz i⟩
  by_cases ei : i = k
  · subst ei
    rw [hx]
    exact World.cell?_setCell_same _ _ _ (h.at_ i hi)
  · rw [World.cell?_setCell_other _ _ _ _ (by intro x; injection x with _ x2 _; exact ei x2.symm), h.at_ i hi, e i hi ei]
theorem mrow_made {w : World} {n B : Nat} {e : TypeId} (h : w.ownsRow B e 1 (.slice (some ⟨B, 0, none⟩) n n) n (madeCells #[Value.int .i8 0] n).toList) : MRow w B n (fun _ => 0) := by
  refine ⟨(h.lt B rfl).2, fun j hj => ?_, fun j => h.frozenAt j⟩
  have h2 := h.cellAt j (by omega)
  rw [toList_madeCells_one] at h2
  rw [h2]
  simp [hj]
def Smalls (vs : List Int) (ws : List (List UInt8)) (n : Nat) : Prop := ws = vs.map decL ∧ vs.length = n ∧ ∀ x ∈ vs, 0 ≤ x ∧ x ≤ 99
theorem Smalls.parse {vs : List Int} {ws : List (List UInt8)} {n k : Nat} (h : Smalls vs ws n) (hk : k < n) {x : List UInt8} (hx : ws[k]? = some x) : Lib.parseIntB 8 x = .ok (vs.getD k 0) ∧ 0 ≤ vs.getD k 0 ∧ vs.getD k 0 ≤ 99 := by
  obtain ⟨h1, h2, h3⟩ := h
  have hkl : k < vs.length := by omega
  rw [h1, List.getElem?_map, List.getElem?_eq_getElem hkl] at hx
  have hb := h3 _ (List.getElem_mem hkl)
  have e : vs.getD k 0 = vs[k] := by rw [List.getD_eq_getElem?_getD, List.getElem?_eq_getElem hkl]; rfl
  rw [e]
  obtain rfl : decL vs[k] = x := by simpa using hx
  refine ⟨?_, hb⟩
  have := parseInt_dec (B := 8) (.inl rfl) (n := (vs[k]).toNat) (by simp only [show (8 - 1 : Nat) = 7 from rfl]; omega)
  unfold decL
  rw [this]
  congr 1; omega
/-- what parseSmalls leaves -/
def SmP (ws : List (List UInt8)) (n : Nat) (w : World) (e : Ending) (w' : World) : Prop :=
  Below w.heap.size w w' ∧ ((∃ g F, e = .returned (.tuple #[.slice (some ⟨g, 0, none⟩) n n, .bool true]) ∧ MRow w' g n F ∧ w.heap.size ≤ g ∧ (∀ i, i < n → -128 ≤ F i ∧ F i ≤ 127) ∧ (∀ vs, Smalls vs ws n → ∀ i, i < n → vs.getD i 0 = F i)) ∨
    (e = .returned (.tuple #[.slice none 0 0, .bool false]) ∧ ∀ vs, ¬ Smalls vs ws n))
def SmI (w0 : World) (g n k : Nat) (ws : List (List UInt8)) (w : World) : Prop := ∃ F, MRow w g n F ∧ (∀ i, i < k → -128 ≤ F i ∧ F i ≤ 127) ∧ (∀ vs, Smalls vs ws n → ∀ i, i < k → vs.getD i 0 = F i)
theorem info_i8s : (Tryd.prog.info? 22).map (fun i => (i.zero, i.size, i.bytes)) = some (some (.int .i8 0), 1, 1) := by kernel_rfl
set_option maxRecDepth 100000 in
set_option maxHeartbeats 4000000 in
theorem parseSmalls_any (b o c n count : Nat) (ws : List (List UInt8)) (w : World) (hn : ws.length = n) (hws : StAt w b o ws) (hb : b < w.heap.size) (hc : n ≤ c) (hlen : ∀ x ∈ ws, x.length ≤ 2000000) (hN : n ≤ 2000000) (hE : ErrAt w) :
    Calls Tryd.prog 60 #[.slice (some ⟨b, o, none⟩) n c, .int .i64 count] w (SmP ws count w) := by
  by_cases hcn : n = count
  · subst hcn
    obtain ⟨i0, hi, hz0, hz1, hz2⟩ := info_parts info_i8s
    have HE := Lib.hid (fun W2 (h2 : Below w.heap.size w W2) => hE.below h2)
    have HS := Lib.hid (fun W2 (h2 : Below w.heap.size w W2) => hws.below h2 hb)
    have HL := Lib.hid hlen
    have Hn := Lib.hid hn
    clear hE hws hlen hn
    go_enter Tryd.func60, Tryd.ntmps60
    go_wp2_with (refine wpList_make_full _ rfl _ _ 100 rfl w.heap.size 22 i0 _ 1 Tryd.underlying100 hi hz0 hz1 _ _ _ _ n rfl rfl rfl rfl ?c1 ?c2 ?c3 ?_)
    case c1 => rw [hz2]; omega
    case c2 => unfold maxLen; omega
    case c3 => exact Nat.le_refl _
    intro w1 hown hgr
    have hF := mrow_made hown
    have hB : Below w.heap.size w w1 := (Below.refl _ _).grown hgr (Nat.le_refl _) (by intro k hk; cases hk)
    have HI := Lib.hid (show SmI w w.heap.size n 0 ws w1 from ⟨_, hF, fun i hi => by omega, fun vs _ i hi => by omega⟩)
    have HB := Lib.hid hB
    clear hown hgr hz0 hz1 hz2 hi i0 hF hB
    go_wp2
    go_loopw [7, 8, 9, 10, 19] (fun _ _ _ _ i wr => ∃ k : Nat, k ≤ n ∧ i = .int .i64 k ∧ Hid (SmI w w.heap.size n k ws wr) ∧ Hid (Below w.heap.size w wr)) (fun _ _ _ _ i _ => n - (intOf i).toNat)
    case atStart => exact ⟨0, by omega, rfl, HI, HB⟩
    case round =>
      clear HI HB
      obtain ⟨k, hk, rfl, HI, HB⟩ := hrel
      by_cases hlt : k < n
      · have hkl : k < ws.length := by rw [Hn.out]; exact hlt
        obtain ⟨x, hx⟩ : ∃ x, ws[k]? = some x := ⟨_, List.getElem?_eq_getElem hkl⟩
        have hxl : x.length ≤ 2000000 := HL.out x (List.mem_of_getElem? hx)
        have hcell := HS.out wr HB.out k x hx
        have lb := Nat.lt_of_lt_of_le hb HB.out.size
        by_cases hp : ∃ v, Lib.parseIntB 8 x = .ok v
        · obtain ⟨v, hv⟩ := hp
          have hbd := parse_bounds (.inl rfl) hv
          simp only [show (8 - 1 : Nat) = 7 from rfl] at hbd
          have wv : IntKind.i8.wrap v = v := IntWalk.i8_in _ (by omega)
          have HP := Lib.hid (parse8_yes x wr hxl v hv)
          have HQ := Lib.hid (fun vs (h : Smalls vs ws n) => (by have h1 := h.parse hlt hx; rw [hv] at h1; injection h1.1 with h2; exact h2.symm : vs.getD k 0 = v))
          clear hv hx
          go_wp2_with fail
          refine HP.out.mono ?_
          rintro e w2 ⟨rfl, hb2⟩
          obtain ⟨F, hF, hF1, hF2⟩ := HI.out
          have hF3 := hF.below hb2
          have ck := hF3.at_ k hlt
          have fk := hF3.fz k
          have lk := hF3.lt
          have HI2 := Lib.hid (show SmI w w.heap.size n (k + 1) ws (w2.setCell ⟨w.heap.size, k, none⟩ (.int .i8 v)) from ⟨fun i => if i = k then v else F i, hF3.put hlt (if_pos rfl) (fun i _ h => (if_neg h).symm), fun i hi => by
              by_cases e : i = k
              · simp only [if_pos e]; omega
              · simp only [if_neg e]; exact hF1 i (by omega),
            fun vs h i hi => by
              by_cases e : i = k
              · simp only [if_pos e]; rw [e]; exact HQ.out vs h
              · simp only [if_neg e]; exact hF2 vs h i (by omega)⟩)
          have HB2 := Lib.hid (kSet (kTrans HB.out hb2) (show w.heap.size ≤ (⟨w.heap.size, k, none⟩ : Addr).block from Nat.le_refl _) (.int .i8 v))
          clear HI HB hF hF1 hF2 hF3 hb2 HP HQ hcell
          go_wp2
          exact ⟨⟨k + 1, by omega, by go_num, HI2, HB2⟩, by simp [intOf]; omega⟩
        · have hp2 : ∀ v, Lib.parseIntB 8 x ≠ .ok v := fun v h => hp ⟨v, h⟩
          have HP := Lib.hid (parse8_no x wr hxl hp2 (HE.out wr HB.out))
          have HQ := Lib.hid (fun vs (h : Smalls vs ws n) => (hp2 _ (h.parse hlt hx).1 : False))
          clear hp hp2 hx
          go_wp2_with fail
          refine HP.out.mono ?_
          rintro e w2 ⟨m, T, a, rfl, hb2⟩
          have HB2 := Lib.hid (kTrans HB.out hb2)
          clear HI HB hb2 HP
          go_wp2
          go_ret2
          exact ⟨HB2.out, .inr ⟨rfl, fun vs h => (HQ.out vs h).elim⟩⟩
      · obtain rfl : k = n := by omega
        go_wp2
        go_ret2
        obtain ⟨F, hF, hF1, hF2⟩ := HI.out
        exact ⟨HB.out, .inl ⟨_, F, rfl, hF, Nat.le_refl _, hF1, hF2⟩⟩
  · have HQ := Lib.hid (fun vs (h : Smalls vs ws count) => (hcn (by obtain ⟨h1, h2, _⟩ := h; rw [← hn, h1, List.length_map]; exact h2) : False))
    clear hE hws hlen hn
    have e1 : ¬ ((n : Nat) : Int) = (count : Int) := by omega
    go_enter Tryd.func60, Tryd.ntmps60
    go_wp2
    go_ret2
    exact ⟨Below.refl _ _, .inr ⟨rfl, fun vs h => (HQ.out vs h).elim⟩⟩
/-- what the search of a word among N leaves -/
def NmP (W : Int → List UInt8) (N : Nat) (s : List UInt8) (w : World) (e : Ending) (w' : World) : Prop :=
  w = w' ∧ ((∃ k : Nat, k < N ∧ e = .returned (.tuple #[.int .i8 k, .bool true]) ∧ s = W k) ∨ (e = .returned (.tuple #[.int .i8 0, .bool false]) ∧ ∀ k : Nat, k < N → s ≠ W k))
end Go.Proofs.YthngnbaoaeomeaaDoor
