/- ValidPushes: the program; its games. -/
import Derived.Test.YthancdlkkfegnaaVp
import Derived.Test.YthancdlkkfegnaaLpI
import Derived.Test.YthancdlkkfegnaaNoI
import Derived.Test.YthancdlkkfegnaaWk
namespace Go.Proofs.Ythancdlkkfegnaa
open Go.ChangeShapes Go.WideShapes Go.ChangeAt Go.RowKit Go.Joins Go.Deep
set_option linter.unusedVariables false

def Pu.told (lb : List Pc) (p : Pu) : Bool := decide (0 ≤ p.side ∧ p.side ≤ 3) && decide (0 ≤ p.tick ∧ p.tick ≤ 1000) && decide (0 ≤ findFrom p.x p.y lb 0)
def tolds (lb : List Pc) : List Pu → Bool
  | [] => true
  | p :: l => p.told lb && tolds lb l
theorem found_in {x y : Int} : ∀ {lb : List Pc} {j : Int}, (∀ q ∈ lb, q.ok = true) → 0 ≤ j → 0 ≤ findFrom x y lb j → (0 ≤ x ∧ x ≤ 23) ∧ (0 ≤ y ∧ y ≤ 23)
  | [], j, _, _, h => by simp [findFrom] at h
  | q :: lb, j, hok, hj, h => by
    unfold findFrom at h
    split at h
    · rename_i he
      have := Pc.ok_at (hok q (List.mem_cons_self ..))
      rw [he.1, he.2] at this
      exact this
    · exact found_in (fun r hr => hok r (List.mem_cons_of_mem _ hr)) (by omega) h
theorem tolds_eq {lb : List Pc} (hok : ∀ q ∈ lb, q.ok = true) : ∀ l : List Pu, (plains l && founds lb l) = tolds lb l
  | [] => rfl
  | p :: l => by
    have ih := tolds_eq hok l
    simp only [plains, founds, tolds, ← ih]
    have key : (p.plain && decide (0 ≤ findFrom p.x p.y lb 0)) = p.told lb := by
      unfold Pu.plain Pu.told
      by_cases hf : 0 ≤ findFrom p.x p.y lb 0
      · have := found_in hok (by omega) hf
        simp [hf, this.1.1, this.1.2, this.2.1, this.2.2, Bool.and_assoc]
      · simp [hf]
    rw [← key]
    cases p.plain <;> cases plains l <;> simp
theorem MapAt.row {w : World} {B g : Nat} {l : List Pc} {cs : Array Value} (h : MapAt w B l) (hne : B ≠ g) : MapAt (w.setRow g cs) B l := by
  obtain ⟨es, c, h1, h2⟩ := h
  exact ⟨es, c, blk_row h1 hne, h2⟩
/-- what gameOf answers -/
def GamePost (R : Bool) (wd hi : Int) (lb : List Pc) (vb vp : Value) (w : World) (e : Ending) (w' : World) : Prop :=
  (R = true → ∃ B, e = .returned (.tuple #[.agg #[.int .i8 wd, .int .i8 hi, .map (some B), vb, vp], .bool true]) ∧ MapAt w' B lb) ∧
  (R = false → e = .returned (.tuple #[.agg #[.int .i8 0, .int .i8 0, .map none, .slice none 0 0, .slice none 0 0], .bool false])) ∧ Below w.heap.size w w'

set_option maxRecDepth 100000 in
set_option maxHeartbeats 4000000 in
theorem gameOf_any (b o m cap : Nat) (wd hi : Int) (lb : List Pc) (pb n : Nat) (l : List Pu) (w : World) (hm : lb.length = m) (hq : PcsAt w b o lb) (hbb : b < w.heap.size) (hcap : m ≤ cap) (h8 : All8 lb) (hmm : m ≤ 1048576)
    (hn : l.length = n) (hp : PusAt w pb 0 l) (hb : pb < w.heap.size) (hw : PusWf l) (hmax : n ≤ 1048576) (R : Bool) (hR : R = (boardOk wd hi lb && pushesOk lb l)) :
    Calls Try.prog 101 #[.agg #[.int .i8 wd, .int .i8 hi, .slice (some ⟨b, o, none⟩) m cap], .slice (some ⟨pb, 0, none⟩) n n] w (GamePost R wd hi lb (.slice (some ⟨b, o, none⟩) m cap) (.slice (some ⟨pb, 0, none⟩) n n) w) := by
  have bA : Below (w.alloc (.cells #[.int .i8 wd, .int .i8 hi, .slice (some ⟨b, o, none⟩) m cap] 30)).heap.size (w.alloc (.cells #[.int .i8 wd, .int .i8 hi, .slice (some ⟨b, o, none⟩) m cap] 30)) ((w.alloc (.cells #[.int .i8 wd, .int .i8 hi, .slice (some ⟨b, o, none⟩) m cap] 30)).alloc (.cells #[.int .i8 0, .int .i8 0, .map none, .slice none 0 0, .slice none 0 0] 138)) := kAlloc (Below.refl _ _) _
  have bW : Below w.heap.size w ((w.alloc (.cells #[.int .i8 wd, .int .i8 hi, .slice (some ⟨b, o, none⟩) m cap] 30)).alloc (.cells #[.int .i8 0, .int .i8 0, .map none, .slice none 0 0, .slice none 0 0] 138)) := by repeat (first | with_reducible exact Below.refl _ _ | (with_reducible refine kSet ?_ ?hB _; case hB => (simp; try omega)) | with_reducible refine kAlloc ?_ _ | with_reducible refine Below.drew ?_ | with_reducible refine kDrewN ?_ _ | with_reducible refine kTrans ?_ (by assumption))
  have qb := (BdAt.box w wd hi (.slice (some ⟨b, o, none⟩) m cap) 30).below bA (by simp)
  have rs : ((w.alloc (.cells #[.int .i8 wd, .int .i8 hi, .slice (some ⟨b, o, none⟩) m cap] 30)).alloc (.cells #[.int .i8 0, .int .i8 0, .map none, .slice none 0 0, .slice none 0 0] 138)).heap[w.heap.size + 1]? = some (.cells #[.int .i8 0, .int .i8 0, .map none, .slice none 0 0, .slice none 0 0] 138 (0, 0)) := by
    have := heap_alloc_new (w.alloc (.cells #[.int .i8 wd, .int .i8 hi, .slice (some ⟨b, o, none⟩) m cap] 30)) (.cells #[.int .i8 0, .int .i8 0, .map none, .slice none 0 0, .slice none 0 0] 138)
    simpa only [World.size_alloc] using this
  have sz : ((w.alloc (.cells #[.int .i8 wd, .int .i8 hi, .slice (some ⟨b, o, none⟩) m cap] 30)).alloc (.cells #[.int .i8 0, .int .i8 0, .map none, .slice none 0 0, .slice none 0 0] 138)).heap.size = w.heap.size + 1 + 1 := by simp
  obtain ⟨Rb, hRb⟩ : ∃ Rb, Rb = boardOk wd hi lb := ⟨_, rfl⟩
  have Hn := Lib.hid hn
  have HW := Lib.hid hw
  have HR := Lib.hid hR
  go_enter Try.func101, Try.ntmps101
  go_wp2_with fail
  generalize (w.alloc (.cells #[.int .i8 wd, .int .i8 hi, .slice (some ⟨b, o, none⟩) m cap] 30)).alloc (.cells #[.int .i8 0, .int .i8 0, .map none, .slice none 0 0, .slice none 0 0] 138) = W0 at *
  refine (layoutOf_any b o m cap wd hi lb _ hm (hq.below bW hbb) (Nat.lt_of_lt_of_le hbb bW.size) hcap h8 hmm Rb hRb).mono ?_
  cases Rb with
  | false =>
    rintro e w1 ⟨_, h1, hb1⟩
    obtain rfl := h1 rfl
    obtain rfl : R = false := by rw [HR.out, ← hRb]; simp
    have T1 := kTrans bW hb1
    have rs1 := (hb1.block (w.heap.size + 1) (by omega)).trans rs
    have hz1 : w.heap.size + 1 < w1.heap.size := by have := hb1.size; omega
    clear h1 hR hn hw hm hq hp bA bW qb rs sz hRb hb1 h8
    have rsb := blk_below rs1 (kAlloc (Below.refl _ _) (.cells #[.int .i8 0, .int .i8 0, .map none] 94))
    go_wp2_with (refine wpList_store_row rfl 138 _ _ rfl (w.heap.size + 1) #[.int .i8 0, .int .i8 0, .map none, .slice none 0 0, .slice none 0 0] rfl rfl 138 _ rsb (by kernel_rfl) (by kernel_rfl) (by kernel_rfl) ?_)
    refine bodyPost_ret (v := .tuple #[.agg #[.int .i8 0, .int .i8 0, .map none, .slice none 0 0, .slice none 0 0], .bool false]) (results_cell_tmp rfl _ _ (w.heap.size + 1) 138 #[.int .i8 0, .int .i8 0, .map none, .slice none 0 0, .slice none 0 0] (0, 0) _ _ rfl rfl (setRow_heap _ _ _ _ _ _ rsb) Try.underlying138 rfl (by kernel_rfl)) rfl ?_
    exact ⟨(fun h => nomatch h), fun _ => rfl, kRowW (by repeat (first | with_reducible exact Below.refl _ _ | (with_reducible refine kSet ?_ ?hB _; case hB => (simp; try omega)) | with_reducible refine kAlloc ?_ _ | with_reducible refine Below.drew ?_ | with_reducible refine kDrewN ?_ _ | with_reducible refine kTrans ?_ (by assumption))) (by omega) _⟩
  | true =>
    rintro e w1 ⟨h1, _, hb1⟩
    obtain ⟨B, rfl, hmp⟩ := h1 rfl
    have hok : ∀ q ∈ lb, q.ok = true := boardOk_ok hRb.symm
    obtain ⟨F, hF⟩ : ∃ F, tolds lb l = F := ⟨_, rfl⟩
    have hRF : R = (decide (n ≤ 20) && F) := by
      rw [HR.out, ← hRb, ← hF, ← tolds_eq hok l]; unfold pushesOk; rw [hn]; simp [Bool.and_assoc]
    have HRF := Lib.hid hRF
    have HF : Hid (tolds lb (l.drop 0) = F) := Lib.hid hF
    have hal : Below w1.heap.size w1 (w1.alloc (.cells #[.int .i8 wd, .int .i8 hi, .map (some B)] 94)) := by repeat (first | with_reducible exact Below.refl _ _ | (with_reducible refine kSet ?_ ?hB _; case hB => (simp; try omega)) | with_reducible refine kAlloc ?_ _ | with_reducible refine Below.drew ?_ | with_reducible refine kDrewN ?_ _ | with_reducible refine kTrans ?_ (by assumption))
    have T1 := kTrans bW hb1
    have rs1 := Lib.hid ((hb1.block (w.heap.size + 1) (by omega)).trans rs)
    have qb1 := Lib.hid (qb.below hb1 (by omega))
    have hz1 : w.heap.size + 1 < w1.heap.size := by have := hb1.size; omega
    have hz1' : w.heap.size < w1.heap.size := by omega
    have T2 := kTrans T1 hal
    have rs2 := Lib.hid ((hal.block (w.heap.size + 1) hz1).trans rs1.out)
    have qb2 := Lib.hid (qb1.out.below hal hz1')
    have ql2 := Lib.hid (BdAt.box w1 wd hi (.map (some B)) 94)
    have qm2 := Lib.hid (hmp.below hal)
    have T1k := Lib.hid T1
    clear h1 hR hn hw hm bA bW qb rs sz hRb hb1 h8 hmp hF hRF hok T1 hal
    by_cases h20 : n ≤ 20
    · obtain rfl : R = F := by rw [HRF.out]; simp [h20]
      have e1 : decide ((20 : Int) < (n : Int)) = false := by simp; omega
      have e2 : decide (20 < n) = false := by simp; omega
      go_wp2
      go_loopw [9, 25] (fun _ i wr => ∃ k : Nat, k ≤ n ∧ i = .int .i64 k ∧ Hid (tolds lb (l.drop k) = R) ∧ Hid (BdAt wr w1.heap.size 0 wd hi (.map (some B))) ∧ Hid (MapAt wr B lb) ∧ Hid (BdAt wr w.heap.size 0 wd hi (.slice (some ⟨b, o, none⟩) m cap)) ∧ Hid (wr.heap[w.heap.size + 1]? = some (.cells #[.int .i8 0, .int .i8 0, .map none, .slice none 0 0, .slice none 0 0] 138 (0, 0))) ∧ Below w.heap.size w wr) (fun _ i _ => n - (intOf i).toNat)
      case atStart => exact ⟨0, by omega, rfl, HF, ql2, qm2, qb2, rs2, T2⟩
      case round =>
        obtain ⟨k, hk, rfl, hf, ql, qm, qbr, rsr, hbr⟩ := hrel
        clear qb1 rs1 qb2 rs2 ql2 qm2 T2 HF
        have hlw := ql.out.lt
        have hzr : w.heap.size + 1 < wr.heap.size := by omega
        have hzr' : w.heap.size < wr.heap.size := by omega
        obtain ⟨l0, l1, l2⟩ := id ql.out
        simp only [Nat.zero_add] at l1 l2
        by_cases hlt : k < n
        · have hlk : k < l.length := by rw [Hn.out]; exact hlt
          have hpa := (hp.below hbr hb) k hlk
          have hwf := HW.out _ (List.getElem_mem hlk)
          have hd : l.drop k = l[k] :: l.drop (k + 1) := List.drop_eq_getElem_cons hlk
          generalize l[k] = p at hpa hwf hd
          have hq2 := hf.out
          rw [hd] at hq2
          have ht := i16_of hwf.2.2.2
          have hsd := i8_of hwf.2.2.1
          unfold i8 at hsd
          obtain ⟨a0, a1, a2, a3⟩ := hpa
          simp only [Nat.zero_add] at a0 a1 a2 a3
          clear hp hd hwf hf hq
          by_cases g1 : 0 ≤ p.side ∧ p.side ≤ 3
          · go_wp2_with fail
            refine (isSide_any _ _ true (by simp; omega)).mono ?_
            rintro e w2 ⟨rfl, rfl⟩
            by_cases g2 : 0 ≤ p.tick ∧ p.tick ≤ 1000
            · go_wp2_with fail
              refine (isPushTick_any _ _ true (by simp; omega)).mono ?_
              rintro e w2 ⟨rfl, rfl⟩
              obtain ⟨f, hff⟩ : ∃ f, findFrom p.x p.y lb 0 = f := ⟨_, rfl⟩
              have hix := fun W (hW : MapAt W B lb) => indexAt_any wd hi p.x p.y B lb W hW
              rw [hff] at hix
              have Hix := Lib.hid hix
              have Hff := Lib.hid hff
              clear hix hff
              go_wp2_with fail
              refine (Hix.out _ (qm.out.below (by repeat (first | with_reducible exact Below.refl _ _ | (with_reducible refine kSet ?_ ?hB _; case hB => (simp; try omega)) | with_reducible refine kAlloc ?_ _ | with_reducible refine Below.drew ?_ | with_reducible refine kDrewN ?_ _ | with_reducible refine kTrans ?_ (by assumption))))).mono ?_
              rintro e w3 ⟨rfl, hb3⟩
              have hB3 : Below wr.heap.size wr w3 := by repeat (first | with_reducible exact Below.refl _ _ | (with_reducible refine kSet ?_ ?hB _; case hB => (simp; try omega)) | with_reducible refine kAlloc ?_ _ | with_reducible refine Below.drew ?_ | with_reducible refine kDrewN ?_ _ | with_reducible refine kTrans ?_ (by assumption))
              have T3 := kTrans hbr hB3
              by_cases g3 : 0 ≤ f
              · have hR2 : Hid (tolds lb (l.drop (k + 1)) = R) := Lib.hid (by rw [← hq2]; simp [tolds, Pu.told, Hff.out, g1, g2, g3])
                have ql3 := Lib.hid (ql.out.below hB3 hlw)
                have qm3 := Lib.hid (qm.out.below hB3)
                have qb3 := Lib.hid (qbr.out.below hB3 hzr')
                have rs3 := Lib.hid ((hB3.block (w.heap.size + 1) hzr).trans rsr.out)
                clear hq2 ql qm qbr rsr hb3 hB3 hbr
                go_wp2
                exact ⟨⟨k + 1, by omega, by go_num, hR2, ql3, qm3, qb3, rs3, T3⟩, by simp [intOf]; omega⟩
              · obtain rfl : R = false := by rw [← hq2]; simp [tolds, Pu.told, Hff.out]; intro _ _ _ _ h; omega
                have rs3 := (hB3.block (w.heap.size + 1) hzr).trans rsr.out
                have hz3 : w.heap.size + 1 < w3.heap.size := Nat.lt_of_lt_of_le hzr hB3.size
                skip
                clear hq2 ql qm qbr rsr hb3 hB3 hbr
                go_wp2_with (refine wpList_store_row rfl 138 _ _ rfl (w.heap.size + 1) #[.int .i8 0, .int .i8 0, .map none, .slice none 0 0, .slice none 0 0] rfl rfl 138 _ rs3 (by kernel_rfl) (by kernel_rfl) (by kernel_rfl) ?_)
                refine bodyPost_ret (v := .tuple #[.agg #[.int .i8 0, .int .i8 0, .map none, .slice none 0 0, .slice none 0 0], .bool false]) (results_cell_tmp rfl _ _ (w.heap.size + 1) 138 #[.int .i8 0, .int .i8 0, .map none, .slice none 0 0, .slice none 0 0] (0, 0) _ _ rfl rfl (setRow_heap _ _ _ _ _ _ rs3) Try.underlying138 rfl (by kernel_rfl)) rfl ?_
                exact ⟨(fun h => nomatch h), fun _ => rfl, kRowW (by repeat (first | with_reducible exact Below.refl _ _ | (with_reducible refine kSet ?_ ?hB _; case hB => (simp; try omega)) | with_reducible refine kAlloc ?_ _ | with_reducible refine Below.drew ?_ | with_reducible refine kDrewN ?_ _ | with_reducible refine kTrans ?_ (by assumption))) (by omega) _⟩
            · obtain rfl : R = false := by rw [← hq2]; simp [tolds, Pu.told]; intro _ _ h3 h4; exact absurd ⟨h3, h4⟩ g2
              clear hq2 ql qm qbr
              go_wp2_with fail
              refine (isPushTick_any _ _ false (by simpa using g2)).mono ?_
              rintro e w2 ⟨rfl, rfl⟩
              have rsb := blk_below rsr.out (kAlloc (Below.refl _ _) (.cells #[.int .i8 p.x, .int .i8 p.y, .int .i8 p.side, .int .i16 p.tick] 133))
              go_wp2_with (refine wpList_store_row rfl 138 _ _ rfl (w.heap.size + 1) #[.int .i8 0, .int .i8 0, .map none, .slice none 0 0, .slice none 0 0] rfl rfl 138 _ rsb (by kernel_rfl) (by kernel_rfl) (by kernel_rfl) ?_)
              refine bodyPost_ret (v := .tuple #[.agg #[.int .i8 0, .int .i8 0, .map none, .slice none 0 0, .slice none 0 0], .bool false]) (results_cell_tmp rfl _ _ (w.heap.size + 1) 138 #[.int .i8 0, .int .i8 0, .map none, .slice none 0 0, .slice none 0 0] (0, 0) _ _ rfl rfl (setRow_heap _ _ _ _ _ _ rsb) Try.underlying138 rfl (by kernel_rfl)) rfl ?_
              exact ⟨(fun h => nomatch h), fun _ => rfl, kRowW (by repeat (first | with_reducible exact Below.refl _ _ | (with_reducible refine kSet ?_ ?hB _; case hB => (simp; try omega)) | with_reducible refine kAlloc ?_ _ | with_reducible refine Below.drew ?_ | with_reducible refine kDrewN ?_ _ | with_reducible refine kTrans ?_ (by assumption))) (by omega) _⟩
          · obtain rfl : R = false := by rw [← hq2]; simp [tolds, Pu.told]; intro h3 h4; exact absurd ⟨h3, h4⟩ g1
            clear hq2 ql qm qbr
            go_wp2_with fail
            refine (isSide_any _ _ false (by simpa using g1)).mono ?_
            rintro e w2 ⟨rfl, rfl⟩
            have rsb := blk_below rsr.out (kAlloc (Below.refl _ _) (.cells #[.int .i8 p.x, .int .i8 p.y, .int .i8 p.side, .int .i16 p.tick] 133))
            go_wp2_with (refine wpList_store_row rfl 138 _ _ rfl (w.heap.size + 1) #[.int .i8 0, .int .i8 0, .map none, .slice none 0 0, .slice none 0 0] rfl rfl 138 _ rsb (by kernel_rfl) (by kernel_rfl) (by kernel_rfl) ?_)
            refine bodyPost_ret (v := .tuple #[.agg #[.int .i8 0, .int .i8 0, .map none, .slice none 0 0, .slice none 0 0], .bool false]) (results_cell_tmp rfl _ _ (w.heap.size + 1) 138 #[.int .i8 0, .int .i8 0, .map none, .slice none 0 0, .slice none 0 0] (0, 0) _ _ rfl rfl (setRow_heap _ _ _ _ _ _ rsb) Try.underlying138 rfl (by kernel_rfl)) rfl ?_
            exact ⟨(fun h => nomatch h), fun _ => rfl, kRowW (by repeat (first | with_reducible exact Below.refl _ _ | (with_reducible refine kSet ?_ ?hB _; case hB => (simp; try omega)) | with_reducible refine kAlloc ?_ _ | with_reducible refine Below.drew ?_ | with_reducible refine kDrewN ?_ _ | with_reducible refine kTrans ?_ (by assumption))) (by omega) _⟩
        · obtain rfl : k = n := by omega
          obtain rfl : R = true := by rw [← hf.out, List.drop_of_length_le (by rw [Hn.out]; omega)]; rfl
          obtain ⟨k0, k1, k2⟩ := qbr.out
          simp only [Nat.zero_add] at k0 k1 k2
          have hne : B ≠ w.heap.size + 1 := by
            obtain ⟨es, c, hm1, _⟩ := qm.out
            intro e
            rw [e, rsr.out] at hm1
            cases hm1
          clear hp hf hq ql qbr
          go_wp2_with (refine wpList_store_row rfl 138 _ _ rfl (w.heap.size + 1) #[.int .i8 wd, .int .i8 hi, .map (some B), .slice (some ⟨b, o, none⟩) m cap, .slice (some ⟨pb, 0, none⟩) k k] rfl rfl 138 _ rsr.out (by kernel_rfl) (by kernel_rfl) (by kernel_rfl) ?_)
          refine bodyPost_ret (v := .tuple #[.agg #[.int .i8 wd, .int .i8 hi, .map (some B), .slice (some ⟨b, o, none⟩) m cap, .slice (some ⟨pb, 0, none⟩) k k], .bool true]) (results_cell_tmp rfl _ _ (w.heap.size + 1) 138 #[.int .i8 wd, .int .i8 hi, .map (some B), .slice (some ⟨b, o, none⟩) m cap, .slice (some ⟨pb, 0, none⟩) k k] (0, 0) _ _ rfl rfl (setRow_heap _ _ _ _ _ _ rsr.out) Try.underlying138 rfl (by kernel_rfl)) rfl ?_
          exact ⟨fun _ => ⟨B, rfl, qm.out.row hne⟩, (fun h => nomatch h), kRowW (by repeat (first | with_reducible exact Below.refl _ _ | (with_reducible refine kSet ?_ ?hB _; case hB => (simp; try omega)) | with_reducible refine kAlloc ?_ _ | with_reducible refine Below.drew ?_ | with_reducible refine kDrewN ?_ _ | with_reducible refine kTrans ?_ (by assumption))) (by omega) _⟩
    · obtain rfl : R = false := by rw [HRF.out]; simp [h20]
      have e1 : decide ((20 : Int) < (n : Int)) = true := by simp; omega
      have e2 : decide (20 < n) = true := by simp; omega
      have T1 : Below w.heap.size w w1 := T1k.out
      clear hp hq HF qb1 qb2 rs2 ql2 qm2 T2
      have rsb := blk_below rs1.out (kAlloc (Below.refl _ _) (.cells #[.int .i8 wd, .int .i8 hi, .map (some B)] 94))
      go_wp2_with (refine wpList_store_row rfl 138 _ _ rfl (w.heap.size + 1) #[.int .i8 0, .int .i8 0, .map none, .slice none 0 0, .slice none 0 0] rfl rfl 138 _ rsb (by kernel_rfl) (by kernel_rfl) (by kernel_rfl) ?_)
      refine bodyPost_ret (v := .tuple #[.agg #[.int .i8 0, .int .i8 0, .map none, .slice none 0 0, .slice none 0 0], .bool false]) (results_cell_tmp rfl _ _ (w.heap.size + 1) 138 #[.int .i8 0, .int .i8 0, .map none, .slice none 0 0, .slice none 0 0] (0, 0) _ _ rfl rfl (setRow_heap _ _ _ _ _ _ rsb) Try.underlying138 rfl (by kernel_rfl)) rfl ?_
      exact ⟨(fun h => nomatch h), fun _ => rfl, kRowW (by repeat (first | with_reducible exact Below.refl _ _ | (with_reducible refine kSet ?_ ?hB _; case hB => (simp; try omega)) | with_reducible refine kAlloc ?_ _ | with_reducible refine Below.drew ?_ | with_reducible refine kDrewN ?_ _ | with_reducible refine kTrans ?_ (by assumption))) (by omega) _⟩
end Go.Proofs.Ythancdlkkfegnaa
