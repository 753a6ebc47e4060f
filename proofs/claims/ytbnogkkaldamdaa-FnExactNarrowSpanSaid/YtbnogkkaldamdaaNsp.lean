/- NarrowSpan, both sides. -/
import Derived.Test.YtbnogkkaldamdaaVs
import Derived.Test.YtbnogkkaldamdaaSqk
namespace Go.Proofs.Ytbnogkkaldamdaa
open Go.ChangeShapes Go.WideShapes Go.ChangeAt Go.RowKit Go.Joins Go.Deep
set_option linter.unusedVariables false
set_option linter.unusedSimpArgs false
def sq0 : Sq := ⟨0, 0⟩
def narrowQ (S : Bool) (l : List Sq) (i lo hi : Int) : List Sq × Int :=
  if S = true then (if 0 ≤ i ∧ i < l.length ∧ 1 ≤ lo ∧ lo ≤ hi ∧ hi ≤ 9 then
      (if (l.getD i.toNat sq0).low ≤ lo ∧ hi ≤ (l.getD i.toNat sq0).high then (l.set i.toNat ⟨lo, hi⟩, 0) else ([], 4)) else ([], 2)) else ([], 1)
theorem pair_NS {a c : List Sq} {b d : Int} (h : (a, b) = (c, d)) : a = c ∧ b = d := by injection h with h1 h2; exact ⟨h1, h2⟩
theorem narrowQ_ok {S : Bool} {l : List Sq} {i lo hi : Int} {L : List Sq} {C : Int} (h8 : SqsWf l) (hmax : l.length ≤ 1048576) (h : narrowQ S l i lo hi = (L, C)) : SqsWf L ∧ L.length ≤ 1048576 := by
  unfold narrowQ at h
  have he : SqsWf ([] : List Sq) ∧ ([] : List Sq).length ≤ 1048576 := ⟨fun p hp => by simp at hp, by simp⟩
  split at h
  · split at h
    · split at h
      · obtain ⟨rfl, rfl⟩ := pair_NS h
        rename_i h1 h2
        refine ⟨fun p hp => ?_, by simpa using hmax⟩
        rcases List.mem_or_eq_of_mem_set hp with h3 | rfl
        · exact h8 p h3
        · have hm : IntKind.i8.min = -128 := rfl
          have hM : IntKind.i8.max = 127 := rfl
          constructor <;> (simp [Lit.wf, hm, hM]; omega)
      · obtain ⟨rfl, rfl⟩ := pair_NS h; exact he
    · obtain ⟨rfl, rfl⟩ := pair_NS h; exact he
  · obtain ⟨rfl, rfl⟩ := pair_NS h; exact he
theorem SqsAt.set {w : World} {b o k : Nat} {l : List Sq} {p : Sq} (h : SqsAt w b o l) (hk : k < l.length) : SqsAt (World.setSq w b (o + k * 2) p) b o (l.set k p) := by
  intro i hi
  rw [List.length_set] at hi
  by_cases e : i = k
  · subst e
    rw [List.getElem_set_self]
    refine setSq_at fun j hj => ?_
    obtain ⟨a0, a1⟩ := h i hk
    have hj2 : j = 0 ∨ j = 1 := by omega
    rcases hj2 with rfl | rfl
    · exact ⟨_, a0⟩
    · exact ⟨_, a1⟩
  · rw [List.getElem_set_ne (Ne.symm e)]
    obtain ⟨a0, a1⟩ := h i (by simpa using hi)
    exact ⟨by rw [setSq_other (by omega)]; exact a0, by rw [setSq_other (by omega)]; exact a1⟩
theorem SlWSq.at_ {lo hi : Nat} {w : World} {l : List Sq} {v : Value} (h : SlWSq lo hi w l v) (hl : 0 < l.length) : ∃ b o cap, v = .slice (some ⟨b, o, none⟩) l.length cap ∧ SqsAt w b o l ∧ lo ≤ b ∧ b < hi ∧ b < w.heap.size ∧ (∀ j, w.frozen? ⟨b, j, none⟩ = false) ∧ l.length ≤ cap := by
  cases h with
  | empty a cap h => subst h; simp at hl
  | mk b o cap hc h1 h2 hb hf hl => exact ⟨b, o, cap, rfl, hc, h1, h2, hb, hf, hl⟩
theorem SlWSq.put {lo hi b o cap k : Nat} {w : World} {l : List Sq} {p : Sq} (hc : SqsAt w b o l) (h1 : lo ≤ b) (h2 : b < hi) (hb : b < w.heap.size) (hf : ∀ j, w.frozen? ⟨b, j, none⟩ = false) (hl : l.length ≤ cap) (hk : k < l.length) : SlWSq lo hi (World.setSq w b (o + k * 2) p) (l.set k p) (.slice (some ⟨b, o, none⟩) l.length cap) := by
  have := SlWSq.mk (lo := lo) (hi := hi) (w := World.setSq w b (o + k * 2) p) (l := l.set k p) b o cap (hc.set hk) h1 h2 (by simpa [World.setSq, World.size_setCell] using hb) (fun j => by unfold World.setSq; simp only [World.frozen?_setCell]; exact hf j) (by rw [List.length_set]; exact hl)
  rwa [List.length_set] at this
def SqPost (L : List Sq) (C : Int) (w : World) (e : Ending) (w' : World) : Prop := ∃ v, e = .returned (.tuple #[v, .int .i64 C]) ∧ SlWSq w.heap.size w'.heap.size w' L v ∧ Below w.heap.size w w'
set_option maxRecDepth 100000 in
set_option maxHeartbeats 4000000 in
theorem implNarrowSpan_any (b n : Nat) (l : List Sq) (i lo hi : Int) (w : World) (hn : l.length = n) (h1 : SqsAt w b 0 l) (hb : b < w.heap.size) (h8 : SqsWf l) (hmax : n ≤ 1048576) (bi : -9223372036854775808 ≤ i ∧ i ≤ 9223372036854775807) (bl : -9223372036854775808 ≤ lo ∧ lo ≤ 9223372036854775807) (bh : -9223372036854775808 ≤ hi ∧ hi ≤ 9223372036854775807) (S : Bool) (hS : spansB l = S) (L : List Sq) (C : Int) (hQ : narrowQ S l i lo hi = (L, C)) :
    Calls Try.prog 18 #[.slice (some ⟨b, 0, none⟩) n n, .int .i64 i, .int .i64 lo, .int .i64 hi] w (SqPost L C w) := by
  have HA := Lib.hid (areSpans_eq b n l w hn h1 hb h8 hmax S hS)
  have HCl := Lib.hid (fun W (hW : Below w.heap.size w W) => cloneSq_mk b 0 n n l W hn (h1.below hW hb) (Nat.lt_of_lt_of_le hb hW.size) hmax)
  cases S with
  | false =>
    obtain ⟨rfl, rfl⟩ := pair_NS (show (([] : List Sq), (1 : Int)) = (L, C) from hQ)
    clear hQ hS h1 h8 HCl
    go_enter Try.func18, Try.ntmps18
    go_wp2_with fail
    refine (HA.out).mono ?_
    rintro e w1 ⟨rfl, hb1⟩
    go_wp2
    exact bodyPost_ret (v := .tuple #[.slice none 0 0, .int .i64 1]) (by simp [results, Try.results18, go_sem]) rfl ⟨_, rfl, .empty _ _ rfl, hb1⟩
  | true =>
    unfold narrowQ at hQ
    rw [if_pos rfl] at hQ
    obtain ⟨R, hR⟩ : ∃ R, decide (1 ≤ lo ∧ lo ≤ hi ∧ hi ≤ 9) = R := ⟨_, rfl⟩
    have HB := Lib.hid (fun W => areBounds_any lo hi W R hR)
    by_cases hi0 : 0 ≤ i
    · by_cases hin : i < n
      · have hg : decide (i < 0) = false := by simp; omega
        have hg2 : decide ((n : Int) ≤ i) = false := by simp; omega
        cases R with
        | false =>
          obtain ⟨rfl, rfl⟩ := pair_NS (show (([] : List Sq), (2 : Int)) = (L, C) by rw [← hQ, if_neg (by intro h; simp [h] at hR)])
          clear hQ hS h1 h8 HCl hR
          go_enter Try.func18, Try.ntmps18
          go_wp2_with fail
          refine (HA.out).mono ?_
          rintro e w1 ⟨rfl, hb1⟩
          go_wp2_with fail
          refine (HB.out _).mono ?_
          rintro e w2 ⟨rfl, rfl⟩
          go_wp2
          exact bodyPost_ret (v := .tuple #[.slice none 0 0, .int .i64 2]) (by simp [results, Try.results18, go_sem]) rfl ⟨_, rfl, .empty _ _ rfl, hb1⟩
        | true =>
          obtain ⟨k, rfl⟩ : ∃ k : Nat, i = k := ⟨i.toNat, by omega⟩
          have hr : 1 ≤ lo ∧ lo ≤ hi ∧ hi ≤ 9 := by simpa using hR
          have hkl : k < l.length := by omega
          rw [if_pos (by omega), Int.toNat_natCast] at hQ
          have hgd : l.getD k sq0 = l[k] := by rw [List.getD_eq_getElem?_getD, List.getElem?_eq_getElem hkl]; rfl
          rw [hgd] at hQ
          have h1' := h1
          have hp := h8 _ (List.getElem_mem hkl)
          obtain ⟨p, hpk⟩ : ∃ p, l[k] = p := ⟨_, rfl⟩
          rw [hpk] at hQ hp
          have HC := Lib.hid (fun W (hW : Below w.heap.size w W) => by have h := (h1'.below hW hb) k hkl; rw [hpk] at h; exact h)
          have b1 := bounds_i8 hp.1
          have b2 := bounds_i8 hp.2
          have Hkl := Lib.hid hkl
          have Hn := Lib.hid hn
          have hkn : k < n := by omega
          clear h1 h1' h8 hS hR hgd hpk hp hkl hn
          by_cases hs : p.low ≤ lo ∧ hi ≤ p.high
          · rw [if_pos hs] at hQ
            obtain ⟨hs1, hs2⟩ := hs
            obtain ⟨hL, rfl⟩ := pair_NS hQ
            have HL := Lib.hid hL
            have e1 : IntKind.i8.wrap lo = lo := IntWalk.i8_in _ (by omega)
            have e2 : IntKind.i8.wrap hi = hi := IntWalk.i8_in _ (by omega)
            clear hQ hL
            go_enter Try.func18, Try.ntmps18
            go_wp2_with fail
            refine (HA.out).mono ?_
            rintro e w1 ⟨rfl, hb1⟩
            obtain ⟨c0, c1⟩ := HC.out _ hb1
            simp only [Nat.zero_add] at c0 c1
            have z1 := Nat.lt_of_lt_of_le hb hb1.size
            go_wp2_with fail
            refine (HB.out _).mono ?_
            rintro e w2 ⟨rfl, rfl⟩
            have HX := Lib.hid (HCl.out _ hb1)
            clear HA HB HCl HC
            have hs1' : decide (lo < p.low) = false := by simp; omega
            have hs2' : decide (p.high < hi) = false := by simp; omega
            go_wp2_with fail
            refine (HX.out).mono ?_
            rintro e w3 ⟨v, rfl, hv, hb3⟩
            have hv2 := SlWSq.of_owns hv
            obtain ⟨g, o, cap, rfl, hc, hg1, hg2', hgl, hgf, hcap⟩ := hv2.at_ (by have := Hkl.out; omega)
            have f0 := hgf (o + k * 2)
            have f1 := hgf (o + k * 2 + 1)
            obtain ⟨d0, d1⟩ := hc k Hkl.out
            have HP := Lib.hid (SlWSq.put (p := ⟨lo, hi⟩) hc (Nat.le_trans hb1.size hg1) hg2' hgl hgf hcap Hkl.out)
            have HT := Lib.hid (kSet (kSet (kTrans hb1 hb3) (p := ⟨g, o + k * 2, none⟩) (Nat.le_trans hb1.size hg1) (.int .i8 lo)) (p := ⟨g, o + k * 2 + 1, none⟩) (Nat.le_trans hb1.size hg1) (.int .i8 hi))
            rw [Hn.out] at HP hcap ⊢
            generalize l[k] = pk at d0 d1
            clear hc hgf HX hv hv2 hb1 hb3 c0 c1 z1
            go_wp2
            exact bodyPost_ret (v := .tuple #[.slice (some ⟨g, o, none⟩) n cap, .int .i64 0]) (by simp [results, Try.results18, go_sem]) rfl ⟨_, rfl, by rw [← HL.out]; simpa [World.setSq] using HP.out, HT.out⟩
          · rw [if_neg hs] at hQ
            obtain ⟨rfl, rfl⟩ := pair_NS hQ
            clear hQ HCl
            by_cases hs1 : p.low ≤ lo
            · have hs1' : decide (lo < p.low) = false := by simp; omega
              have hs2' : decide (p.high < hi) = true := by simp; omega
              clear hs
              go_enter Try.func18, Try.ntmps18
              go_wp2_with fail
              refine (HA.out).mono ?_
              rintro e w1 ⟨rfl, hb1⟩
              obtain ⟨c0, c1⟩ := HC.out _ hb1
              simp only [Nat.zero_add] at c0 c1
              have z1 := Nat.lt_of_lt_of_le hb hb1.size
              go_wp2_with fail
              refine (HB.out _).mono ?_
              rintro e w2 ⟨rfl, rfl⟩
              go_wp2
              exact bodyPost_ret (v := .tuple #[.slice none 0 0, .int .i64 4]) (by simp [results, Try.results18, go_sem]) rfl ⟨_, rfl, .empty _ _ rfl, hb1⟩
            · have hs1' : decide (lo < p.low) = true := by simp; omega
              clear hs
              go_enter Try.func18, Try.ntmps18
              go_wp2_with fail
              refine (HA.out).mono ?_
              rintro e w1 ⟨rfl, hb1⟩
              obtain ⟨c0, c1⟩ := HC.out _ hb1
              simp only [Nat.zero_add] at c0 c1
              have z1 := Nat.lt_of_lt_of_le hb hb1.size
              go_wp2_with fail
              refine (HB.out _).mono ?_
              rintro e w2 ⟨rfl, rfl⟩
              go_wp2
              exact bodyPost_ret (v := .tuple #[.slice none 0 0, .int .i64 4]) (by simp [results, Try.results18, go_sem]) rfl ⟨_, rfl, .empty _ _ rfl, hb1⟩
      · have hg : decide (i < 0) = false := by simp; omega
        have hg2 : decide ((n : Int) ≤ i) = true := by simp; omega
        obtain ⟨rfl, rfl⟩ := pair_NS (show (([] : List Sq), (2 : Int)) = (L, C) by rw [← hQ, if_neg (by omega)])
        clear hQ hS h1 h8 HCl hR
        go_enter Try.func18, Try.ntmps18
        go_wp2_with fail
        refine (HA.out).mono ?_
        rintro e w1 ⟨rfl, hb1⟩
        go_wp2
        exact bodyPost_ret (v := .tuple #[.slice none 0 0, .int .i64 2]) (by simp [results, Try.results18, go_sem]) rfl ⟨_, rfl, .empty _ _ rfl, hb1⟩
    · have hg : decide (i < 0) = true := by simp; omega
      obtain ⟨rfl, rfl⟩ := pair_NS (show (([] : List Sq), (2 : Int)) = (L, C) by rw [← hQ, if_neg (by omega)])
      clear hQ hS h1 h8 HCl hR
      go_enter Try.func18, Try.ntmps18
      go_wp2_with fail
      refine (HA.out).mono ?_
      rintro e w1 ⟨rfl, hb1⟩
      go_wp2
      exact bodyPost_ret (v := .tuple #[.slice none 0 0, .int .i64 2]) (by simp [results, Try.results18, go_sem]) rfl ⟨_, rfl, .empty _ _ rfl, hb1⟩
set_option maxRecDepth 100000 in
set_option maxHeartbeats 4000000 in
theorem specNarrowSpan_any (b n : Nat) (l : List Sq) (i lo hi : Int) (w : World) (hn : l.length = n) (h1 : SqsAt w b 0 l) (hb : b < w.heap.size) (h8 : SqsWf l) (hmax : n ≤ 1048576) (bi : -9223372036854775808 ≤ i ∧ i ≤ 9223372036854775807) (bl : -9223372036854775808 ≤ lo ∧ lo ≤ 9223372036854775807) (bh : -9223372036854775808 ≤ hi ∧ hi ≤ 9223372036854775807) (S : Bool) (hS : spansB l = S) (L : List Sq) (C : Int) (hQ : narrowQ S l i lo hi = (L, C)) :
    Calls Try.prog 17 #[.slice (some ⟨b, 0, none⟩) n n, .int .i64 i, .int .i64 lo, .int .i64 hi] w (SqPost L C w) := by
  have HA := Lib.hid (l06Spans_any b n l w hn h1 hb h8 hmax S hS)
  have HP := Lib.hid (fun W (hW : Below w.heap.size w W) => (h1.below hW hb).news)
  cases S with
  | false =>
    obtain ⟨rfl, rfl⟩ := pair_NS (show (([] : List Sq), (1 : Int)) = (L, C) from hQ)
    clear hQ hS h1 h8 HP
    go_enter Try.func17, Try.ntmps17
    go_wp2_with fail
    refine (HA.out).mono ?_
    rintro e w1 ⟨rfl, hb1⟩
    go_wp2
    exact bodyPost_ret (v := .tuple #[.slice (some ⟨w1.heap.size, 0, none⟩) 0 0, .int .i64 1]) (by simp [results, Try.results17, go_sem]) rfl ⟨_, rfl, .empty _ _ rfl, kAlloc hb1 _⟩
  | true =>
    unfold narrowQ at hQ
    rw [if_pos rfl] at hQ
    by_cases g1 : 0 ≤ i ∧ i ≤ (n : Int) - 1
    · by_cases g2 : 1 ≤ hi ∧ hi ≤ 9
      · by_cases g3 : 1 ≤ lo ∧ lo ≤ hi
        · obtain ⟨k, rfl⟩ : ∃ k : Nat, i = k := ⟨i.toNat, by omega⟩
          have hkl : k < l.length := by omega
          rw [if_pos (by omega), Int.toNat_natCast] at hQ
          have hgd : l.getD k sq0 = l[k] := by rw [List.getD_eq_getElem?_getD, List.getElem?_eq_getElem hkl]; rfl
          rw [hgd] at hQ
          have h1' := h1
          have hp := h8 _ (List.getElem_mem hkl)
          obtain ⟨p, hpk⟩ : ∃ p, l[k] = p := ⟨_, rfl⟩
          rw [hpk] at hQ hp
          have HC := Lib.hid (fun W (hW : Below w.heap.size w W) => by have h := (h1'.below hW hb) k hkl; rw [hpk] at h; exact h)
          have b1 := bounds_i8 hp.1
          have b2 := bounds_i8 hp.2
          have Hkl := Lib.hid hkl
          have Hn := Lib.hid hn
          have hkn : k < n := by omega
          have H1 := Lib.hid (fun W => l00In_any (k : Int) 0 ((n : Int) - 1) W true (by simp; omega))
          have H2 := Lib.hid (fun W => l00In_any hi 1 9 W true (by simp; omega))
          have H3 := Lib.hid (fun W => l00In_any lo 1 hi W true (by simp; omega))
          have Hfl : Hid ((flatSq l).length = n * 2) := Lib.hid (by rw [flatSq_length, hn])
          have hwn : IntKind.i64.wrap ((n : Int) - 1) = n - 1 := IntWalk.i64_in _ (by omega)
          clear h1 h1' h8 hS hgd hpk hp hkl hn
          by_cases hs : p.low ≤ lo ∧ hi ≤ p.high
          · rw [if_pos hs] at hQ
            obtain ⟨hs1, hs2⟩ := hs
            obtain ⟨hL, rfl⟩ := pair_NS hQ
            have HL := Lib.hid hL
            have e1 : IntKind.i8.wrap lo = lo := IntWalk.i8_in _ (by omega)
            have e2 : IntKind.i8.wrap hi = hi := IntWalk.i8_in _ (by omega)
            have hs1' : decide (lo < p.low) = false := by simp; omega
            have hs2' : decide (p.high < hi) = false := by simp; omega
            obtain ⟨i0, hi0_, hz0, hzz1, hzz2⟩ := info_parts info_Sq
            have Hi := Lib.hid hi0_
            have Hz0 := Lib.hid hz0
            have Hz1 := Lib.hid hzz1
            have Hz2 := Lib.hid hzz2
            clear hQ hL hi0_ hz0 hzz1 hzz2
            go_enter Try.func17, Try.ntmps17
            go_wp2_with fail
            refine (HA.out).mono ?_
            rintro e w1 ⟨rfl, hb1⟩
            obtain ⟨c0, c1⟩ := HC.out _ hb1
            simp only [Nat.zero_add] at c0 c1
            have z1 := Nat.lt_of_lt_of_le hb hb1.size
            go_wp2_with fail
            refine (H1.out _).mono ?_
            rintro e w2 ⟨rfl, rfl⟩
            go_wp2_with fail
            refine (H2.out _).mono ?_
            rintro e w2 ⟨rfl, rfl⟩
            go_wp2_with fail
            refine (H3.out _).mono ?_
            rintro e w2 ⟨rfl, rfl⟩
            clear HA HC H1 H2 H3 hwn
            go_wp2_with (at_builtin; refine wpList_append_own _ rfl _ _ 34 rfl w1.heap.size 79 i0 _ 2 2 Try.underlying34 Hi.out Hz0.out Hz1.out Hz2.out rfl (by decide) (.slice (some ⟨w1.heap.size, 0, none⟩) 0 0) 0 [] rfl (owns_new (Nat.le_refl _) (heap_alloc_new _ _)) ⟨b, 0, none⟩ n n (flatSq l) rfl Hfl.out ?qc2 (flatSq_one l) ?qc4 ?qc5 ?qc6 ?_)
            case qc2 => exact HP.out _ (kAlloc hb1 _)
            case qc4 => unfold maxLen; omega
            case qc5 => omega
            case qc6 => simp
            intro v3 w3 hown hgr hnil
            have hv2 := SlWSq.of_owns (show w3.ownsRow w1.heap.size 79 2 v3 n (flatSq l) by simpa using hown)
            have hb3 : Below w1.heap.size w1 w3 := grown_below (v := .slice (some ⟨w1.heap.size, 0, none⟩) 0 0) (kAlloc (Below.refl _ _) _) hgr (by intro k hk; simp [Value.ownBlock] at hk; omega)
            obtain ⟨g, o, cap, rfl, hc, hg1, hg2', hgl, hgf, hcap⟩ := hv2.at_ (by have := Hkl.out; omega)
            have f0 := hgf (o + k * 2)
            have f1 := hgf (o + k * 2 + 1)
            obtain ⟨d0, d1⟩ := hc k Hkl.out
            have HP2 := Lib.hid (SlWSq.put (p := ⟨lo, hi⟩) hc (Nat.le_trans hb1.size hg1) hg2' hgl hgf hcap Hkl.out)
            have HT := Lib.hid (kSet (kSet (kTrans hb1 hb3) (p := ⟨g, o + k * 2, none⟩) (Nat.le_trans hb1.size hg1) (.int .i8 lo)) (p := ⟨g, o + k * 2 + 1, none⟩) (Nat.le_trans hb1.size hg1) (.int .i8 hi))
            obtain ⟨m, hm⟩ : ∃ m, l.length = m := ⟨_, rfl⟩
            rw [Hn.out] at HP2 hcap ⊢
            generalize l[k] = pk at d0 d1
            clear hc hgf hown hgr hnil hv2 hb1 hb3 c0 c1 z1 HP hm
            go_wp2
            exact bodyPost_ret (v := .tuple #[.slice (some ⟨g, o, none⟩) n cap, .int .i64 0]) (by simp [results, Try.results17, go_sem]) rfl ⟨_, rfl, by rw [← HL.out]; simpa [World.setSq] using HP2.out, HT.out⟩
          · rw [if_neg hs] at hQ
            obtain ⟨rfl, rfl⟩ := pair_NS hQ
            clear hQ HP
            by_cases hs1 : p.low ≤ lo
            · have hs1' : decide (lo < p.low) = false := by simp; omega
              have hs2' : decide (p.high < hi) = true := by simp; omega
              clear hs
              go_enter Try.func17, Try.ntmps17
              go_wp2_with fail
              refine (HA.out).mono ?_
              rintro e w1 ⟨rfl, hb1⟩
              obtain ⟨c0, c1⟩ := HC.out _ hb1
              simp only [Nat.zero_add] at c0 c1
              have z1 := Nat.lt_of_lt_of_le hb hb1.size
              go_wp2_with fail
              refine (H1.out _).mono ?_
              rintro e w2 ⟨rfl, rfl⟩
              go_wp2_with fail
              refine (H2.out _).mono ?_
              rintro e w2 ⟨rfl, rfl⟩
              go_wp2_with fail
              refine (H3.out _).mono ?_
              rintro e w2 ⟨rfl, rfl⟩
              clear hwn
              go_wp2
              exact bodyPost_ret (v := .tuple #[.slice (some ⟨w1.heap.size, 0, none⟩) 0 0, .int .i64 4]) (by simp [results, Try.results17, go_sem]) rfl ⟨_, rfl, .empty _ _ rfl, kAlloc hb1 _⟩
            · have hs1' : decide (lo < p.low) = true := by simp; omega
              clear hs
              go_enter Try.func17, Try.ntmps17
              go_wp2_with fail
              refine (HA.out).mono ?_
              rintro e w1 ⟨rfl, hb1⟩
              obtain ⟨c0, c1⟩ := HC.out _ hb1
              simp only [Nat.zero_add] at c0 c1
              have z1 := Nat.lt_of_lt_of_le hb hb1.size
              go_wp2_with fail
              refine (H1.out _).mono ?_
              rintro e w2 ⟨rfl, rfl⟩
              go_wp2_with fail
              refine (H2.out _).mono ?_
              rintro e w2 ⟨rfl, rfl⟩
              go_wp2_with fail
              refine (H3.out _).mono ?_
              rintro e w2 ⟨rfl, rfl⟩
              clear hwn
              go_wp2
              exact bodyPost_ret (v := .tuple #[.slice (some ⟨w1.heap.size, 0, none⟩) 0 0, .int .i64 4]) (by simp [results, Try.results17, go_sem]) rfl ⟨_, rfl, .empty _ _ rfl, kAlloc hb1 _⟩
        · obtain ⟨rfl, rfl⟩ := pair_NS (show (([] : List Sq), (2 : Int)) = (L, C) by rw [← hQ, if_neg (by omega)])
          have hwn : IntKind.i64.wrap ((n : Int) - 1) = n - 1 := IntWalk.i64_in _ (by omega)
          have H1 := Lib.hid (fun W => l00In_any i 0 ((n : Int) - 1) W true (by simp; omega))
          have H2 := Lib.hid (fun W => l00In_any hi 1 9 W true (by simp; omega))
          have H3 := Lib.hid (fun W => l00In_any lo 1 hi W false (by simp; omega))
          clear hQ hS h1 h8 HP g1 g2 g3
          go_enter Try.func17, Try.ntmps17
          go_wp2_with fail
          refine (HA.out).mono ?_
          rintro e w1 ⟨rfl, hb1⟩
          go_wp2_with fail
          refine (H1.out _).mono ?_
          rintro e w2 ⟨rfl, rfl⟩
          go_wp2_with fail
          refine (H2.out _).mono ?_
          rintro e w2 ⟨rfl, rfl⟩
          go_wp2_with fail
          refine (H3.out _).mono ?_
          rintro e w2 ⟨rfl, rfl⟩
          go_wp2
          exact bodyPost_ret (v := .tuple #[.slice (some ⟨w1.heap.size, 0, none⟩) 0 0, .int .i64 2]) (by simp [results, Try.results17, go_sem]) rfl ⟨_, rfl, .empty _ _ rfl, kAlloc hb1 _⟩
      · obtain ⟨rfl, rfl⟩ := pair_NS (show (([] : List Sq), (2 : Int)) = (L, C) by rw [← hQ, if_neg (by omega)])
        have hwn : IntKind.i64.wrap ((n : Int) - 1) = n - 1 := IntWalk.i64_in _ (by omega)
        have H1 := Lib.hid (fun W => l00In_any i 0 ((n : Int) - 1) W true (by simp; omega))
        have H2 := Lib.hid (fun W => l00In_any hi 1 9 W false (by simp; omega))
        clear hQ hS h1 h8 HP g1 g2
        go_enter Try.func17, Try.ntmps17
        go_wp2_with fail
        refine (HA.out).mono ?_
        rintro e w1 ⟨rfl, hb1⟩
        go_wp2_with fail
        refine (H1.out _).mono ?_
        rintro e w2 ⟨rfl, rfl⟩
        go_wp2_with fail
        refine (H2.out _).mono ?_
        rintro e w2 ⟨rfl, rfl⟩
        go_wp2
        exact bodyPost_ret (v := .tuple #[.slice (some ⟨w1.heap.size, 0, none⟩) 0 0, .int .i64 2]) (by simp [results, Try.results17, go_sem]) rfl ⟨_, rfl, .empty _ _ rfl, kAlloc hb1 _⟩
    · obtain ⟨rfl, rfl⟩ := pair_NS (show (([] : List Sq), (2 : Int)) = (L, C) by rw [← hQ, if_neg (by omega)])
      have hwn : IntKind.i64.wrap ((n : Int) - 1) = n - 1 := IntWalk.i64_in _ (by omega)
      have H1 := Lib.hid (fun W => l00In_any i 0 ((n : Int) - 1) W false (by simp; omega))
      clear hQ hS h1 h8 HP g1
      go_enter Try.func17, Try.ntmps17
      go_wp2_with fail
      refine (HA.out).mono ?_
      rintro e w1 ⟨rfl, hb1⟩
      go_wp2_with fail
      refine (H1.out _).mono ?_
      rintro e w2 ⟨rfl, rfl⟩
      go_wp2
      exact bodyPost_ret (v := .tuple #[.slice (some ⟨w1.heap.size, 0, none⟩) 0 0, .int .i64 2]) (by simp [results, Try.results17, go_sem]) rfl ⟨_, rfl, .empty _ _ rfl, kAlloc hb1 _⟩
end Go.Proofs.Ytbnogkkaldamdaa
