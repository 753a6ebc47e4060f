/- ReadKnock..: the text and the model's check at any slice. -/
import Derived.Test.YthngnbaoaeomeaaDoorKnI
import Derived.Test.YthngnbaoaeomeaaDoorKok
namespace Go.Proofs.YthngnbaoaeomeaaDoor
open Go.ChangeShapes Go.WideShapes Go.ChangeAt Go.RowKit Go.Joins Go.Deep
set_option linter.unusedVariables false
set_option linter.unusedSimpArgs false

set_option maxRecDepth 100000 in
set_option maxHeartbeats 8000000 in
theorem krText_any (b o n cap : Nat) (hcap : n ≤ cap) (l : List Ko) (w : World) (hn : l.length = n) (hp : KosAt w b o l) (hb : b < w.heap.size) (h8 : KosWf l) (hmax : n ≤ 1048576) (R : Bool) (hR : R = (decide (n ≤ 60) && kplains l)) (S : ByteArray) (hS : bsT (ktQ R l) = S) (hst : SideAt w) :
    Calls Tryd.prog 50 #[.slice (some ⟨b, o, none⟩) n cap] w fun e w' => e = .returned (.string S) ∧ Below w.heap.size w w' := by
  by_cases h20 : n ≤ 60
  · have hz : ¬ (60 : Int) < (n : Int) := by omega
    have hz2 : decide ((60 : Int) < (n : Int)) = false := by simpa using hz
    have HP := Lib.hid (fun W2 (h2 : Below w.heap.size w W2) => hp.below h2 hb)
    have HST := Lib.hid (fun W2 (h2 : Below w.heap.size w W2) => hst.below h2)
    have Hn := Lib.hid hn
    have H8 := Lib.hid h8
    obtain ⟨W2, hW2⟩ : ∃ z, w.alloc (.cells #[.pointer none, .slice none 0 0] 110) = z := ⟨_, rfl⟩
    have k2 : Below w.heap.size w W2 := by rw [← hW2]; exact kAlloc (Below.refl _ _) _
    have hBA : BAt w.heap.size w.heap.size [] W2 := by rw [← hW2]; exact BAt.fresh w
    obtain ⟨B, hB⟩ : ∃ B, w.heap.size = B := ⟨_, rfl⟩
    rw [hB] at hBA
    have HBA := Lib.hid (show BAt B B (koL (l.take 0)) W2 from hBA)
    have hBW : w.heap.size ≤ B := by omega
    have HB2 := Lib.hid k2
    have HW2 := Lib.hid hW2
    have HBB := Lib.hid hB
    obtain ⟨P, hP⟩ : ∃ P, kplains l = P := ⟨_, rfl⟩
    have HPl : Hid (kplains (l.drop 0) = P) := Lib.hid hP
    have HS := Lib.hid (show bsT (ktQ P l) = S by rw [← hS, hR, hP]; simp [h20])
    have HPIN : Hid (∀ p ∈ l.take 0, koIn p) := Lib.hid (fun p h => absurd h (by simp))
    clear hn hp h8 hR hS hst hW2 k2 hBA hB hP
    go_enter Tryd.func50, Tryd.ntmps50
    go_upto_region 4 with fail
    try rw [HW2.out]
    try rw [HBB.out]
    clear HW2 HBB
    go_wp2
    go_loopw [11] (fun i wr => ∃ j : Nat, j ≤ n ∧ i = .int .i64 j ∧ Hid (BAt B B (koL (l.take j)) wr) ∧ Hid (Below w.heap.size w wr) ∧ Hid (kplains (l.drop j) = P) ∧ Hid (∀ p ∈ l.take j, koIn p)) (fun i _ => n - (intOf i).toNat)
    case atStart => exact ⟨0, by omega, rfl, HBA, HB2, HPl, HPIN⟩
    case round =>
      clear HBA HB2 HPl HPIN
      obtain ⟨j, hj, rfl, hBA, hB, hpl_, hinj⟩ := hrel
      by_cases hlt : j < n
      · have hlk : j < l.length := by rw [Hn.out]; exact hlt
        have hq := hpl_.out
        rw [kplains_step hlk] at hq
        obtain ⟨p, hpj⟩ : ∃ p, l[j] = p := ⟨_, rfl⟩
        rw [hpj] at hq
        have hwf := H8.out p (by rw [← hpj]; exact List.getElem_mem hlk)
        obtain ⟨a0, a1, a2⟩ := (show KoAt wr b (o + j * 3) p by have h := HP.out wr hB.out j hlk; rw [hpj] at h; exact h)
        have zb := Nat.lt_of_lt_of_le hb hB.out.size
        have HNX := Lib.hid (show koL (l.take (j + 1)) = koL (l.take j) ++ koLine p by rw [koL_succ hlk, hpj])
        have HTK := Lib.hid (show p.plain = true → ∀ q ∈ l.take (j + 1), koIn q from fun h q hq => by
          rw [List.take_succ_eq_append_getElem hlk, hpj] at hq
          rcases List.mem_append.1 hq with hq | hq
          · exact hinj.out q hq
          · rw [List.mem_singleton.1 hq]; exact koIn_of h)
        have hll := koL_len (l.take j) hinj.out
        rw [List.length_take] at hll
        obtain ⟨r, hr⟩ : ∃ r, r = p.plain := ⟨_, rfl⟩
        have HI := Lib.hid (fun W => isWritten_any p hwf W r hr)
        rw [← hr] at hq
        have HQ := Lib.hid hq
        have HRR := Lib.hid hr
        have HLE := Lib.hid (fun (h : koIn p) => koLine_len h)
        have HPI := Lib.hid (fun (h : p.plain = true) => koIn_of h)
        have HPD := Lib.hid (show koLine p = lineL [decL p.after, decL p.piece, sideWL p.side] from rfl)
        obtain ⟨ka, kp, ks⟩ := p
        simp only at a0 a1 a2 HI HPD
        obtain ⟨w7, hw7⟩ : ∃ z, wr.alloc (.cells #[.int .i64 ka, .int .i64 kp, .int .i8 ks] 82) = z := ⟨_, rfl⟩
        have k7 : Below wr.heap.size wr w7 := by rw [← hw7]; exact kAlloc (Below.refl _ _) _
        have b7 : w7.heap[wr.heap.size]? = some (.cells #[.int .i64 ka, .int .i64 kp, .int .i8 ks] 82 (0, 0)) := by rw [← hw7]; exact nNewX _ _
        have HB7 := Lib.hid (kTrans hB.out k7)
        have HBA7 := Lib.hid (hBA.out.below k7)
        have Hw7 := Lib.hid hw7
        clear hw7 hpj hwf hB hBA k7 hr hq hinj hpl_
        go_upto_region 7 with fail
        try rw [Hw7.out]
        clear Hw7 a0 a1 a2 zb
        obtain ⟨X, hX⟩ : ∃ X, wr.heap.size = X := ⟨_, rfl⟩
        rw [hX] at b7 ⊢
        clear hX
        have HBX7 := Lib.hid b7
        have q0 : w7.cell? ⟨X, 0, none⟩ = some (.int .i64 ka) := cell_of_row _ _ 0 _ _ _ b7
        have q1 : w7.cell? ⟨X, 1, none⟩ = some (.int .i64 kp) := cell_of_row _ _ 1 _ _ _ b7
        have q2 : w7.cell? ⟨X, 2, none⟩ = some (.int .i8 ks) := cell_of_row _ _ 2 _ _ _ b7
        have lq := blk_lt b7
        clear b7
        go_wp2_with fail
        refine (HI.out _).mono ?_
        rintro e w8 ⟨rfl, hb8⟩
        have HB8 := Lib.hid (kTrans HB7.out hb8)
        have b8 := blkX HBX7.out hb8
        have HBA8 := Lib.hid (HBA7.out.below hb8)
        clear hb8 q0 q1 q2 lq HB7 HBX7 HBA7 HI
        cases r with
        | false =>
          obtain rfl : P = false := by rw [← HQ.out]; simp
          obtain rfl : (⟨#[]⟩ : ByteArray) = S := by rw [← HS.out]; rfl
          clear HS HQ HRR b8
          go_wp2
          go_ret
          exact ⟨rfl, HB8.out⟩
        | true =>
          have hpt := HRR.out.symm
          have hin := HPI.out hpt
          have hpl := HLE.out hin
          have HTK2 := Lib.hid (HTK.out hpt)
          have HQ2 : Hid (kplains (l.drop (j + 1)) = P) := Lib.hid (by have h := HQ.out; simpa using h)
          unfold koIn at hin
          simp only at hin
          obtain ⟨sn, rfl⟩ : ∃ sn : Nat, ks = sn := ⟨ks.toNat, by omega⟩
          have hs4 : sn < 4 := by omega
          have hs40 : (sn : Int) < 4 := by omega
          have wa_ : IntKind.i8.wrap ka = ka := IntWalk.i8_in _ (by omega)
          have wp_ : IntKind.i8.wrap kp = kp := IntWalk.i8_in _ (by omega)
          have HX := Lib.hid (fun W => smallText_any ka W (by omega) (by omega))
          have HY := Lib.hid (fun W => smallText_any kp W (by omega) (by omega))
          have q0 : w8.cell? ⟨X, 0, none⟩ = some (.int .i64 ka) := cell_of_row _ _ 0 _ _ _ b8
          have q1 : w8.cell? ⟨X, 1, none⟩ = some (.int .i64 kp) := cell_of_row _ _ 1 _ _ _ b8
          have q2 : w8.cell? ⟨X, 2, none⟩ = some (.int .i8 (sn : Int)) := cell_of_row _ _ 2 _ _ _ b8
          have lq := blk_lt b8
          have hst8 := HST.out _ HB8.out
          have ck := hst8.1 sn hs4
          have lg := hst8.2
          clear b8 hst8 hpt hin HLE HPI HTK HQ HRR
          go_upto_region 9 with fail
          refine wp_region_still_tail 12 (by kernel_rfl) (by kernel_rfl) ?_
          simp only [List.take_succ_cons, List.take_zero, List.drop_succ_cons, List.drop_zero]
          repeat still_step
          still_call (HX.out _)
          repeat still_step
          still_call (HY.out _)
          repeat still_step
          try refine wpStill_nil ?_
          change wpList _ _ _ _ _ w8.drew
          have HB9 := Lib.hid (show Below w.heap.size w w8.drew from Below.drew HB8.out)
          have HBA9 := Lib.hid (show BAt B B (koL (l.take j)) w8.drew from HBA8.out.below (Below.drew (Below.refl _ _)))
          clear q0 q1 q2 lq ck lg HBA8 HB8 HX HY
          generalize w8.drew = w9 at HB9 HBA9 ⊢
          obtain ⟨w10, hw10⟩ : ∃ z, w9.alloc (.cells #[.string (bsT (decL ka)), .string (bsT (decL kp)), .string (bsT (sideWL (sn : Int)))] 9) = z := ⟨_, rfl⟩
          have k10 : Below w9.heap.size w9 w10 := by rw [← hw10]; exact kAlloc (Below.refl _ _) _
          have b10 : w10.heap[w9.heap.size]? = some (.cells #[.string (bsT (decL ka)), .string (bsT (decL kp)), .string (bsT (sideWL (sn : Int)))] 9 (0, 0)) := by rw [← hw10]; exact nNewX _ _
          have HWL := Lib.hid (wordsLine_any w9.heap.size 0 3 [decL ka, decL kp, sideWL (sn : Int)] w10 (fun j x hx => by
            rw [Nat.zero_add, cell_of_row w10 _ j _ _ _ b10]
            match j, hx with
            | 0, hx => simp at hx; subst hx; rfl
            | 1, hx => simp at hx; subst hx; rfl
            | 2, hx => simp at hx; subst hx; rfl) (blk_lt b10) (by simp) (by rw [← HPD.out]; omega) (by simp))
          rw [← HPD.out] at HWL
          have HB10 := Lib.hid (kTrans HB9.out k10)
          have HBA10 := Lib.hid (HBA9.out.below k10)
          have Hw10 := Lib.hid hw10
          obtain ⟨PL, hPL⟩ : ∃ z, koLine ⟨ka, kp, (sn : Int)⟩ = z := ⟨_, rfl⟩
          rw [hPL] at HWL HNX hpl
          obtain ⟨AL, hAL⟩ : ∃ z, koL (l.take j) = z := ⟨_, rfl⟩
          rw [hAL] at HBA10 HNX hll
          clear hw10 b10 k10 HBA9 HB9 HPD hPL hAL
          go_wp2_with (go_at_call 66; rw [Hw10.out]; refine HWL.out.mono ?_; rintro e w5 ⟨rfl, hb5⟩; have HB5 := Lib.hid (kTrans HB10.out hb5); have HBA5 := Lib.hid (HBA10.out.below hb5); clear hb5)
          refine (writeStr_any B B AL PL _ HBA5.out (by omega)).mono ?_
          rintro e w6 ⟨rfl, hBA6, hb6⟩
          have HB6 := Lib.hid (HB5.out.trans (hb6.mono hBW))
          have HBA6 := Lib.hid (show BAt B B (koL (l.take (j + 1))) w6 by rw [HNX.out]; exact hBA6)
          clear hBA6 hb6 HBA10 HBA5 HB10 HB5 HWL Hw10 HNX hll hpl
          go_wp2
          exact ⟨⟨j + 1, by omega, by go_num, HBA6, HB6, HQ2, HTK2⟩, by simp [intOf]; omega⟩
      · obtain rfl : j = n := by omega
        obtain rfl : P = true := by rw [← hpl_.out, List.drop_of_length_le (by rw [Hn.out]; exact Nat.le_refl _)]; rfl
        have HBA2 := Lib.hid (show BAt B B (koL l) wr by have h := hBA.out; rw [List.take_of_length_le (by rw [Hn.out]; exact Nat.le_refl _)] at h; exact h)
        have HQ := Lib.hid (builtStr_any B B (koL l) wr HBA2.out)
        rw [show bsT (koL l) = S from HS.out] at HQ
        clear hBA HBA2 HS hpl_ hinj
        go_wp2_with fail
        refine HQ.out.mono ?_
        rintro e w3 ⟨rfl, hb3⟩
        have T3 := Lib.hid (hB.out.trans (hb3.mono hBW))
        clear hb3
        go_wp2
        go_ret
        exact ⟨rfl, T3.out⟩
  · obtain rfl : (⟨#[]⟩ : ByteArray) = S := by rw [← hS]; unfold ktQ; rw [if_neg (by rw [hR]; simp; intro h; omega)]; rfl
    have hz : (60 : Int) < (n : Int) := by omega
    have hz2 : decide ((60 : Int) < (n : Int)) = true := by simpa using hz
    clear hS hR hn hp h8 h20 hst
    go_enter Tryd.func50, Tryd.ntmps50
    go_wp2
    go_ret
    exact ⟨rfl, Below.refl _ _⟩
set_option maxRecDepth 100000 in
set_option maxHeartbeats 2000000 in
theorem krText_nil (a : Option Addr) (cap : Nat) (w : World) (S : ByteArray) (hS : bsT [] = S) :
    Calls Tryd.prog 50 #[.slice a 0 cap] w fun e w' => e = .returned (.string S) ∧ Below w.heap.size w w' := by
  obtain ⟨W2, hW2⟩ : ∃ z, w.alloc (.cells #[.pointer none, .slice none 0 0] 110) = z := ⟨_, rfl⟩
  have k2 : Below w.heap.size w W2 := by rw [← hW2]; exact kAlloc (Below.refl _ _) _
  have hBA : BAt w.heap.size w.heap.size [] W2 := by rw [← hW2]; exact BAt.fresh w
  obtain ⟨B, hB⟩ : ∃ B, w.heap.size = B := ⟨_, rfl⟩
  rw [hB] at hBA
  have HBA := Lib.hid hBA
  have hBW : w.heap.size ≤ B := by omega
  have HB2 := Lib.hid k2
  have HW2 := Lib.hid hW2
  have HBB := Lib.hid hB
  have HS := Lib.hid hS
  clear hS hW2 k2 hBA hB
  go_enter Tryd.func50, Tryd.ntmps50
  go_upto_region 4 with fail
  try rw [HW2.out]
  try rw [HBB.out]
  clear HW2 HBB
  go_wp2
  go_loopw [11] (fun i wr => i = .int .i64 0 ∧ Hid (BAt B B [] wr) ∧ Hid (Below w.heap.size w wr)) (fun _ _ => 0)
  case atStart => exact ⟨rfl, HBA, HB2⟩
  case round =>
    clear HBA HB2
    obtain ⟨rfl, hBA, hB⟩ := hrel
    have HQ := Lib.hid (builtStr_any B B [] wr hBA.out)
    rw [HS.out] at HQ
    clear hBA HS
    go_wp2_with fail
    refine HQ.out.mono ?_
    rintro e w3 ⟨rfl, hb3⟩
    have T3 := Lib.hid (hB.out.trans (hb3.mono hBW))
    clear hb3
    go_wp2
    go_ret
    exact ⟨rfl, T3.out⟩
theorem krText_sl (lo hh : Nat) (v : Value) (l : List Ko) (w : World) (hs : SlWKo lo hh w l v) (h8 : KosWf l) (hmax : l.length ≤ 1048576) (R : Bool) (hR : R = (decide (l.length ≤ 60) && kplains l)) (S : ByteArray) (hS : bsT (ktQ R l) = S) (hst : SideAt w) :
    Calls Tryd.prog 50 #[v] w fun e w' => e = .returned (.string S) ∧ Below w.heap.size w w' := by
  cases hs with
  | empty a cap h => subst h; exact krText_nil a cap w S (by rw [← hS, hR]; rfl)
  | mk b o cap hc h1 h2 hb hf hl => exact krText_any b o _ cap hl l w rfl hc hb h8 hmax R hR S hS hst
end Go.Proofs.YthngnbaoaeomeaaDoor
