/- The nodes of a table, by recursion on the inputs: the program. -/
import Derived.Test.YtdnjamlibnmpfaaNtb0
import Derived.Deep.DeepCutAuto
namespace Go.Proofs.Ytdnjamlibnmpfaa
open Go.ChangeShapes Go.WideShapes Go.ChangeAt Go.RowKit Go.Joins Go.Deep
set_option linter.unusedVariables false
set_option linter.unusedSimpArgs false
theorem tabT_zero (n : Nat) (a : List Nd) : tabT n 0 a = (nv a, (a.length : Int) + 1) := by cases n <;> (rw [tabT]; rw [if_pos rfl])
theorem tabT_full (n : Nat) (t : Int) (a : List Nd) (h0 : t ≠ 0) (h : t = fullF n) : tabT n t a = (on a, (a.length : Int)) := by
  cases n with
  | zero => rw [tabT, if_neg h0]
  | succ n => rw [tabT, if_neg h0, if_pos h]
theorem allRowsI_any (x : Int) (n : Nat) (hx : x = (n : Int)) (w : World) (hn : n ≤ 6) : Calls Try.prog 49 #[.int .i8 x] w fun e w' => e = .returned (.int .u64 (fullF n)) ∧ w = w' := by subst hx; exact allRowsF_any n w hn
set_option maxRecDepth 100000 in
set_option maxHeartbeats 4000000 in
theorem implTab_zero (B n : Nat) (acc : List Nd) (w : World) (h : BS w B 72 acc) (hl : acc.length ≤ 980) :
    Calls Try.prog 50 #[.pointer (some ⟨B, 0, none⟩), .int .i8 n, .int .u64 0] w (BP B 72 (tabT n 0 acc).1 (tabT n 0 acc).2 w) := by
  rw [tabT_zero]
  have HC := Lib.hid (show Calls Try.prog 67 #[.pointer (some ⟨B, 0, none⟩)] w (BP B 72 (nv acc) ((acc.length : Int) + 1) w) from bnever_any B acc w h hl)
  clear h
  go_enter Try.func50, Try.ntmps50
  go_wp2_with fail
  refine (HC.out).mono ?_
  rintro e w1 ⟨rfl, hs, hb, hk⟩
  have H1 := Lib.hid hs
  have H2 := Lib.hid hb
  have H3 := Lib.hid hk
  clear hs hb hk HC
  go_wp2
  go_ret
  exact ⟨rfl, H1.out, H2.out, H3.out⟩
set_option maxRecDepth 100000 in
set_option maxHeartbeats 4000000 in
theorem implTab_full (B n : Nat) (t : Int) (acc : List Nd) (w : World) (h : BS w B 72 acc) (hl : acc.length ≤ 980) (hn : n ≤ 6) (h0 : t ≠ 0) (h1 : t = fullF n) :
    Calls Try.prog 50 #[.pointer (some ⟨B, 0, none⟩), .int .i8 n, .int .u64 t] w (BP B 72 (tabT n t acc).1 (tabT n t acc).2 w) := by
  rw [tabT_full n t acc h0 h1]
  have HC := Lib.hid (show Calls Try.prog 68 #[.pointer (some ⟨B, 0, none⟩)] w (BP B 72 (on acc) (acc.length : Int) w) from bone_any B acc w h (by omega))
  have HR := Lib.hid (allRowsF_any n w hn)
  have e0 : (t == 0) = false := by simpa using h0
  have e1 : (t == fullF n) = true := by simpa using h1
  clear h h0 h1
  go_enter Try.func50, Try.ntmps50
  go_wp2_with fail
  refine (HR.out).mono ?_
  rintro e w1 ⟨rfl, rfl⟩
  go_wp2_with fail
  refine (HC.out).mono ?_
  rintro e w1 ⟨rfl, hs, hb, hk⟩
  have H1 := Lib.hid hs
  have H2 := Lib.hid hb
  have H3 := Lib.hid hk
  clear hs hb hk HC HR
  go_wp2
  go_ret
  exact ⟨rfl, H1.out, H2.out, H3.out⟩
set_option maxRecDepth 100000 in
set_option maxHeartbeats 8000000 in
theorem implTab_any (B : Nat) : ∀ (n : Nat) (t : Int) (acc : List Nd) (w : World), n ≤ 6 → 0 ≤ t → t ≤ fullF n → acc.length + 8 * 2 ^ n ≤ 980 → BS w B 72 acc →
    Calls Try.prog 50 #[.pointer (some ⟨B, 0, none⟩), .int .i8 n, .int .u64 t] w (BP B 72 (tabT n t acc).1 (tabT n t acc).2 w) := by
  intro n
  induction n with
  | zero =>
    intro t acc w hn h0 h1 hl h
    by_cases hz : t = 0
    · subst hz; exact implTab_zero B 0 acc w h (by omega)
    · exact implTab_full B 0 t acc w h (by omega) (by omega) hz (by have e : fullF 0 = 1 := rfl; omega)
  | succ n ih =>
    intro t acc w hn h0 h1 hl h
    have hp1 : 1 ≤ 2 ^ n := Nat.one_le_two_pow
    have hpp : 2 ^ (n + 1) = 2 * 2 ^ n := by rw [Nat.pow_succ]; omega
    rw [hpp] at hl
    by_cases hz : t = 0
    · subst hz; exact implTab_zero B (n + 1) acc w h (by omega)
    by_cases hf : t = fullF (n + 1)
    · exact implTab_full B (n + 1) t acc w h (by omega) (by omega) hz hf
    have ht64 : t ≤ 18446744073709551615 := by
      have e : fullF (n + 1) ≤ 18446744073709551615 := by
        have : n = 0 ∨ n = 1 ∨ n = 2 ∨ n = 3 ∨ n = 4 ∨ n = 5 := by omega
        rcases this with rfl | rfl | rfl | rfl | rfl | rfl <;> decide
      omega
    have ha := andF_le (n := n) (by omega) h0 ht64
    have hs := shF_le (n := n) (by omega) h0 h1
    obtain ⟨t0, ht0⟩ : ∃ t0, andF t n = t0 := ⟨_, rfl⟩
    obtain ⟨t1, ht1⟩ : ∃ t1, shF t n = t1 := ⟨_, rfl⟩
    have hT : tabT (n + 1) t acc = if t0 = t1 then tabT n t0 acc else (mixE n (tabT n t0 (tabT n t1 acc).1).1 (tabT n t1 acc).2 (tabT n t0 (tabT n t1 acc).1).2, ((mixD n (tabT n t0 (tabT n t1 acc).1).1 (tabT n t1 acc).2 (tabT n t0 (tabT n t1 acc).1).2).length : Int)) := by
      rw [tabT, if_neg hz, if_neg hf]
      simp only [ht0, ht1]
    rw [ht0] at ha
    rw [ht1] at hs
    obtain ⟨AA, rr, hAR⟩ : ∃ AA rr, tabT (n + 1) t acc = (AA, rr) := ⟨_, _, rfl⟩
    rw [hAR]
    rw [hAR] at hT
    have HT := Lib.hid hT
    have IH := Lib.hid ih
    have Ht0 := Lib.hid ht0
    have Ht1 := Lib.hid ht1
    have HS := Lib.hid h
    have HR := Lib.hid (allRowsF_any (n + 1) w (by omega))
    have e0 : (t == 0) = false := by simpa using hz
    have e1 : (t == fullF (n + 1)) = false := by simpa using hf
    have n5 : n ≤ 5 := by omega
    obtain ⟨N, hN⟩ : ∃ N, n + 1 = N := ⟨_, rfl⟩
    rw [hN] at HR e1 ⊢
    have q8' : (N : Int) - 1 = (n : Int) := by omega
    have q8 : IntKind.i8.wrap ((N : Int) - 1) = (n : Int) := by rw [q8']; exact IntWalk.i8_in _ (by omega)
    clear ih ht0 ht1 h hz hf hT hAR hpp hN h0 h1 ht64
    go_enter Try.func50, Try.ntmps50
    go_wp2_with fail
    refine (HR.out).mono ?_
    rintro e w1 ⟨rfl, rfl⟩
    clear HR
    go_upto_region 7 with fail
    go_cut [8, 9] from 27 to 34 (fun s8 s9 wx => s8 = .int .u64 t0 ∧ s9 = .int .u64 t1 ∧ ∃ k : Nat, wx = w.drewN k)
    case first =>
      have : n = 0 ∨ n = 1 ∨ n = 2 ∨ n = 3 ∨ n = 4 ∨ n = 5 := by omega
      rcases this with rfl | rfl | rfl | rfl | rfl | rfl
      · have r0 : Go.bits .and .u64 t (fullF 0) = t0 := Ht0.out
        have r1 : t / 2 = t1 := by have h := Ht1.out; unfold shF at h; simpa using h
        clear q8 q8' e0 e1 ha hs hl
        go_quiet ((go_at_call 49; exact Calls.quiet_of_same ((allRowsI_any _ 0 rfl _ (by omega)).mono fun e w' h => ⟨h.1, h.2.symm⟩)))
        go_wp2_with fail
        go_meet
        exact ⟨rfl, rfl, _, rfl⟩
      · have r0 : Go.bits .and .u64 t (fullF 1) = t0 := Ht0.out
        have r1 : t / 4 = t1 := by have h := Ht1.out; unfold shF at h; simpa using h
        clear q8 q8' e0 e1 ha hs hl
        go_quiet ((go_at_call 49; exact Calls.quiet_of_same ((allRowsI_any _ 1 rfl _ (by omega)).mono fun e w' h => ⟨h.1, h.2.symm⟩)))
        go_wp2_with fail
        go_meet
        exact ⟨rfl, rfl, _, rfl⟩
      · have r0 : Go.bits .and .u64 t (fullF 2) = t0 := Ht0.out
        have r1 : t / 16 = t1 := by have h := Ht1.out; unfold shF at h; simpa using h
        clear q8 q8' e0 e1 ha hs hl
        go_quiet ((go_at_call 49; exact Calls.quiet_of_same ((allRowsI_any _ 2 rfl _ (by omega)).mono fun e w' h => ⟨h.1, h.2.symm⟩)))
        go_wp2_with fail
        go_meet
        exact ⟨rfl, rfl, _, rfl⟩
      · have r0 : Go.bits .and .u64 t (fullF 3) = t0 := Ht0.out
        have r1 : t / 256 = t1 := by have h := Ht1.out; unfold shF at h; simpa using h
        clear q8 q8' e0 e1 ha hs hl
        go_quiet ((go_at_call 49; exact Calls.quiet_of_same ((allRowsI_any _ 3 rfl _ (by omega)).mono fun e w' h => ⟨h.1, h.2.symm⟩)))
        go_wp2_with fail
        go_meet
        exact ⟨rfl, rfl, _, rfl⟩
      · have r0 : Go.bits .and .u64 t (fullF 4) = t0 := Ht0.out
        have r1 : t / 65536 = t1 := by have h := Ht1.out; unfold shF at h; simpa using h
        clear q8 q8' e0 e1 ha hs hl
        go_quiet ((go_at_call 49; exact Calls.quiet_of_same ((allRowsI_any _ 4 rfl _ (by omega)).mono fun e w' h => ⟨h.1, h.2.symm⟩)))
        go_wp2_with fail
        go_meet
        exact ⟨rfl, rfl, _, rfl⟩
      · have r0 : Go.bits .and .u64 t (fullF 5) = t0 := Ht0.out
        have r1 : t / 4294967296 = t1 := by have h := Ht1.out; unfold shF at h; simpa using h
        clear q8 q8' e0 e1 ha hs hl
        go_quiet ((go_at_call 49; exact Calls.quiet_of_same ((allRowsI_any _ 5 rfl _ (by omega)).mono fun e w' h => ⟨h.1, h.2.symm⟩)))
        go_wp2_with fail
        go_meet
        exact ⟨rfl, rfl, _, rfl⟩
    case rest =>
      obtain ⟨rfl, rfl, k, rfl⟩ := hcut
      have HS1 := Lib.hid (HS.out.below (kDrewN (Below.refl _ _) k))
      have HB1 := Lib.hid (show Below B w (w.drewN k) from (kDrewN (Below.refl _ _) k).mono (Nat.le_of_lt HS.out.lt))
      have HK1 := Lib.hid (show KN w (w.drewN k) B from KN.of_below (kDrewN (Below.refl _ _) k))
      generalize w.drewN k = W1 at HS1 HB1 HK1 ⊢
      clear HS
      by_cases h01 : t0 = t1
      · skip
        have e2 : (t0 == t1) = true := by simpa using h01
        have hA : tabT n t0 acc = (AA, rr) := by have h := HT.out; rw [if_pos h01] at h; exact h.symm
        have C1 := Lib.hid (by have h := IH.out t0 acc W1 (by omega) ha.1 ha.2 (by omega) HS1.out; rw [hA] at h; exact h)
        clear h01 hA IH HT
        go_wp2_with fail
        refine (C1.out).mono ?_
        rintro e w2 ⟨rfl, hs2, hb2, hk2⟩
        have H2 := Lib.hid hs2
        have B2 := Lib.hid (HB1.out.trans hb2)
        have K2 := Lib.hid (HK1.out.trans hk2)
        clear hs2 hb2 hk2 C1
        go_wp2
        go_ret
        exact ⟨rfl, H2.out, B2.out, K2.out⟩
      · skip
        have e2 : (t0 == t1) = false := by simpa using h01
        obtain ⟨A1, p, h1⟩ : ∃ A1 p, tabT n t1 acc = (A1, p) := ⟨_, _, rfl⟩
        obtain ⟨A2, q, h2⟩ : ∃ A2 q, tabT n t0 A1 = (A2, q) := ⟨_, _, rfl⟩
        have l1 := tabT_len n t1 acc
        have l2 := tabT_len n t0 A1
        rw [h1] at l1
        rw [h2] at l2
        simp only at l1 l2
        have hAR : AA = mixE n A2 p q ∧ rr = ((mixD n A2 p q).length : Int) := by
          have h := HT.out
          rw [if_neg h01] at h
          simp only [h1, h2] at h
          exact ⟨(Prod.mk.inj h).1, (Prod.mk.inj h).2⟩
        obtain ⟨rfl, rfl⟩ := hAR
        have C1 := Lib.hid (by have h := IH.out t1 acc W1 (by omega) hs.1 hs.2 (by omega) HS1.out; rw [h1] at h; exact h)
        have IH2 := Lib.hid (fun W hS => by have h := IH.out t0 A1 W (by omega) ha.1 ha.2 (by omega) hS; rw [h2] at h; exact h)
        have hm := mix_lens n A2 p q
        have m2 : A2.length ≤ 968 := by omega
        have ma : (mixA n A2).length ≤ 980 := by omega
        have mo : (on (mixA n A2)).length ≤ 980 := by omega
        have mb : (mixB n A2 p).length ≤ 980 := by omega
        have mc : (mixC n A2 p).length ≤ 980 := by omega
        have md : (mixD n A2 p q).length ≤ 980 := by omega
        have HMo := Lib.hid (show ((on (mixA n A2)).length : Int) = ((mixA n A2).length : Int) + 1 by simp [on])
        have q64 : IntKind.i64.wrap (n : Int) = n := IntWalk.i64_in _ (by omega)
        clear h01 h1 h2 IH HT l1 l2 hm
        go_wp2_with fail
        refine (C1.out).mono ?_
        rintro e w2 ⟨rfl, hs2, hb2, hk2⟩
        have H2 := Lib.hid hs2
        have B2 := Lib.hid (HB1.out.trans hb2)
        have K2 := Lib.hid (HK1.out.trans hk2)
        have C2 := Lib.hid (IH2.out w2 H2.out)
        clear hs2 hb2 hk2 C1
        go_wp2_with fail
        refine (C2.out).mono ?_
        rintro e w3 ⟨rfl, hs2, hb2, hk2⟩
        have H3 := Lib.hid hs2
        have B3 := Lib.hid (B2.out.trans hb2)
        have K3 := Lib.hid (K2.out.trans hk2)
        clear hs2 hb2 hk2 C2 IH2
        have C4 := Lib.hid (show Calls Try.prog 41 #[.pointer (some ⟨B, 0, none⟩), .int .i64 (n : Int)] w3 (BP B 72 (mixA n A2) ((A2.length : Int)) w3) from bin_any B A2 n w3 H3.out (by omega) (by omega))
        go_wp2_with fail
        refine (C4.out).mono ?_
        rintro e w4 ⟨rfl, hs2, hb2, hk2⟩
        have H4 := Lib.hid hs2
        have B4 := Lib.hid (B3.out.trans hb2)
        have K4 := Lib.hid (K3.out.trans hk2)
        clear hs2 hb2 hk2 C4
        have C5 := Lib.hid (show Calls Try.prog 69 #[.pointer (some ⟨B, 0, none⟩), .int .i16 p] w4 (BP B 72 (mixB n A2 p) (((on (mixA n A2)).length : Int)) w4) from by have h := bnot_any B (mixA n A2) p w4 H4.out (by omega); rw [show (mixA n A2) ++ [(⟨1, 0, 0⟩ : Nd), ⟨3, ((mixA n A2).length : Int), p⟩] = mixB n A2 p by simp [mixB, unN, on], ← HMo.out] at h; exact h)
        go_wp2_with fail
        refine (C5.out).mono ?_
        rintro e w5 ⟨rfl, hs2, hb2, hk2⟩
        have H5 := Lib.hid hs2
        have B5 := Lib.hid (B4.out.trans hb2)
        have K5 := Lib.hid (K4.out.trans hk2)
        clear hs2 hb2 hk2 C5
        have C6 := Lib.hid (show Calls Try.prog 62 #[.pointer (some ⟨B, 0, none⟩), .int .i16 (A2.length : Int), .int .i16 ((on (mixA n A2)).length : Int)] w5 (BP B 72 (mixC n A2 p) (((mixB n A2 p).length : Int)) w5) from bunless_any B (mixB n A2 p) (A2.length : Int) ((on (mixA n A2)).length : Int) w5 H5.out (by omega))
        go_wp2_with fail
        refine (C6.out).mono ?_
        rintro e w6 ⟨rfl, hs2, hb2, hk2⟩
        have H6 := Lib.hid hs2
        have B6 := Lib.hid (B5.out.trans hb2)
        have K6 := Lib.hid (K5.out.trans hk2)
        clear hs2 hb2 hk2 C6
        have C7 := Lib.hid (show Calls Try.prog 62 #[.pointer (some ⟨B, 0, none⟩), .int .i16 q, .int .i16 (A2.length : Int)] w6 (BP B 72 (mixD n A2 p q) (((mixC n A2 p).length : Int)) w6) from bunless_any B (mixC n A2 p) q (A2.length : Int) w6 H6.out (by omega))
        go_wp2_with fail
        refine (C7.out).mono ?_
        rintro e w7 ⟨rfl, hs2, hb2, hk2⟩
        have H7 := Lib.hid hs2
        have B7 := Lib.hid (B6.out.trans hb2)
        have K7 := Lib.hid (K6.out.trans hk2)
        clear hs2 hb2 hk2 C7
        have C8 := Lib.hid (show Calls Try.prog 44 #[.pointer (some ⟨B, 0, none⟩), .int .i16 ((mixB n A2 p).length : Int), .int .i16 ((mixC n A2 p).length : Int)] w7 (BP B 72 (mixE n A2 p q) (((mixD n A2 p q).length : Int)) w7) from bor_any B (mixD n A2 p q) ((mixB n A2 p).length : Int) ((mixC n A2 p).length : Int) w7 H7.out (by omega))
        go_wp2_with fail
        refine (C8.out).mono ?_
        rintro e w8 ⟨rfl, hs2, hb2, hk2⟩
        have H8 := Lib.hid hs2
        have B8 := Lib.hid (B7.out.trans hb2)
        have K8 := Lib.hid (K7.out.trans hk2)
        clear hs2 hb2 hk2 C8
        go_wp2
        go_ret
        exact ⟨rfl, H8.out, B8.out, K8.out⟩
set_option maxRecDepth 100000 in
set_option maxHeartbeats 4000000 in
theorem specTab_zero (B n : Nat) (acc : List Nd) (w : World) (h : BS w B 66 acc) (hl : acc.length ≤ 980) :
    Calls Try.prog 47 #[.pointer (some ⟨B, 0, none⟩), .int .i64 n, .int .u64 0] w (BP B 66 (tabT n 0 acc).1 (tabT n 0 acc).2 w) := by
  rw [tabT_zero]
  have HC := Lib.hid (show Calls Try.prog 66 #[.pointer (some ⟨B, 0, none⟩)] w (BP B 66 (nv acc) ((acc.length : Int) + 1) w) from mzero_any B acc w h hl)
  clear h
  go_enter Try.func47, Try.ntmps47
  go_wp2_with fail
  refine (HC.out).mono ?_
  rintro e w1 ⟨rfl, hs, hb, hk⟩
  have H1 := Lib.hid hs
  have H2 := Lib.hid hb
  have H3 := Lib.hid hk
  clear hs hb hk HC
  go_wp2
  go_ret
  exact ⟨rfl, H1.out, H2.out, H3.out⟩
set_option maxRecDepth 100000 in
set_option maxHeartbeats 4000000 in
theorem specTab_full (B n : Nat) (t : Int) (acc : List Nd) (w : World) (h : BS w B 66 acc) (hl : acc.length ≤ 980) (hn : n ≤ 6) (h0 : t ≠ 0) (h1 : t = fullF n) :
    Calls Try.prog 47 #[.pointer (some ⟨B, 0, none⟩), .int .i64 n, .int .u64 t] w (BP B 66 (tabT n t acc).1 (tabT n t acc).2 w) := by
  rw [tabT_full n t acc h0 h1]
  have HC := Lib.hid (show Calls Try.prog 36 #[.pointer (some ⟨B, 0, none⟩), .int .i8 1, .int .i16 0, .int .i16 0] w (BP B 66 (on acc) (acc.length : Int) w) from add_any B acc 1 0 0 w h (by omega))
  have HR := Lib.hid (l04FullF_any n w hn)
  have e0 : (t == 0) = false := by simpa using h0
  have e1 : (t == fullF n) = true := by simpa using h1
  clear h h0 h1
  go_enter Try.func47, Try.ntmps47
  go_wp2_with fail
  refine (HR.out).mono ?_
  rintro e w1 ⟨rfl, rfl⟩
  go_wp2_with fail
  refine (HC.out).mono ?_
  rintro e w1 ⟨rfl, hs, hb, hk⟩
  have H1 := Lib.hid hs
  have H2 := Lib.hid hb
  have H3 := Lib.hid hk
  clear hs hb hk HC HR
  go_wp2
  go_ret
  exact ⟨rfl, H1.out, H2.out, H3.out⟩
set_option maxRecDepth 100000 in
set_option maxHeartbeats 8000000 in
theorem specTab_any (B : Nat) : ∀ (n : Nat) (t : Int) (acc : List Nd) (w : World), n ≤ 6 → 0 ≤ t → t ≤ fullF n → acc.length + 8 * 2 ^ n ≤ 980 → BS w B 66 acc →
    Calls Try.prog 47 #[.pointer (some ⟨B, 0, none⟩), .int .i64 n, .int .u64 t] w (BP B 66 (tabT n t acc).1 (tabT n t acc).2 w) := by
  intro n
  induction n with
  | zero =>
    intro t acc w hn h0 h1 hl h
    by_cases hz : t = 0
    · subst hz; exact specTab_zero B 0 acc w h (by omega)
    · exact specTab_full B 0 t acc w h (by omega) (by omega) hz (by have e : fullF 0 = 1 := rfl; omega)
  | succ n ih =>
    intro t acc w hn h0 h1 hl h
    have hp1 : 1 ≤ 2 ^ n := Nat.one_le_two_pow
    have hpp : 2 ^ (n + 1) = 2 * 2 ^ n := by rw [Nat.pow_succ]; omega
    rw [hpp] at hl
    by_cases hz : t = 0
    · subst hz; exact specTab_zero B (n + 1) acc w h (by omega)
    by_cases hf : t = fullF (n + 1)
    · exact specTab_full B (n + 1) t acc w h (by omega) (by omega) hz hf
    have ht64 : t ≤ 18446744073709551615 := by
      have e : fullF (n + 1) ≤ 18446744073709551615 := by
        have : n = 0 ∨ n = 1 ∨ n = 2 ∨ n = 3 ∨ n = 4 ∨ n = 5 := by omega
        rcases this with rfl | rfl | rfl | rfl | rfl | rfl <;> decide
      omega
    have ha := andF_le (n := n) (by omega) h0 ht64
    have hs := shF_le (n := n) (by omega) h0 h1
    obtain ⟨t0, ht0⟩ : ∃ t0, andF t n = t0 := ⟨_, rfl⟩
    obtain ⟨t1, ht1⟩ : ∃ t1, shF t n = t1 := ⟨_, rfl⟩
    have hT : tabT (n + 1) t acc = if t0 = t1 then tabT n t0 acc else (mixE n (tabT n t0 (tabT n t1 acc).1).1 (tabT n t1 acc).2 (tabT n t0 (tabT n t1 acc).1).2, ((mixD n (tabT n t0 (tabT n t1 acc).1).1 (tabT n t1 acc).2 (tabT n t0 (tabT n t1 acc).1).2).length : Int)) := by
      rw [tabT, if_neg hz, if_neg hf]
      simp only [ht0, ht1]
    rw [ht0] at ha
    rw [ht1] at hs
    obtain ⟨AA, rr, hAR⟩ : ∃ AA rr, tabT (n + 1) t acc = (AA, rr) := ⟨_, _, rfl⟩
    rw [hAR]
    rw [hAR] at hT
    have HT := Lib.hid hT
    have IH := Lib.hid ih
    have Ht0 := Lib.hid ht0
    have Ht1 := Lib.hid ht1
    have HS := Lib.hid h
    have HR := Lib.hid (l04FullF_any (n + 1) w (by omega))
    have e0 : (t == 0) = false := by simpa using hz
    have e1 : (t == fullF (n + 1)) = false := by simpa using hf
    have n5 : n ≤ 5 := by omega
    obtain ⟨N, hN⟩ : ∃ N, n + 1 = N := ⟨_, rfl⟩
    rw [hN] at HR e1 ⊢
    have q8' : (N : Int) - 1 = (n : Int) := by omega
    have q8 : IntKind.i64.wrap ((N : Int) - 1) = (n : Int) := by rw [q8']; exact IntWalk.i64_in _ (by omega)
    clear ih ht0 ht1 h hz hf hT hAR hpp hN h0 h1 ht64
    go_enter Try.func47, Try.ntmps47
    go_wp2_with fail
    refine (HR.out).mono ?_
    rintro e w1 ⟨rfl, rfl⟩
    clear HR
    have HQ1 := Lib.hid (l04RowsF_any n w (by omega))
    have HQ2 := Lib.hid (l04FullF_any n w (by omega))
    have r0_ : Go.bits .and .u64 t (fullF n) = t0 := Ht0.out
    go_wp2_with fail
    refine (HQ1.out).mono ?_
    rintro e w1 ⟨rfl, rfl⟩
    go_wp2_with fail
    refine (HQ2.out).mono ?_
    rintro e w1 ⟨rfl, rfl⟩
    clear HQ1 HQ2
    go_upto_region 7 with fail
    clear r0_
    go_cut [9] from 35 to 38 (fun s9 wx => s9 = .int .u64 t1 ∧ w = wx)
    case first =>
      have : n = 0 ∨ n = 1 ∨ n = 2 ∨ n = 3 ∨ n = 4 ∨ n = 5 := by omega
      rcases this with rfl | rfl | rfl | rfl | rfl | rfl
      · have r1 : t / 2 = t1 := by have h := Ht1.out; unfold shF at h; simpa using h
        clear q8 q8' e0 e1 ha hs hl
        go_wp2_with fail
        go_meet
        exact ⟨rfl, rfl⟩
      · have r1 : t / 4 = t1 := by have h := Ht1.out; unfold shF at h; simpa using h
        clear q8 q8' e0 e1 ha hs hl
        go_wp2_with fail
        go_meet
        exact ⟨rfl, rfl⟩
      · have r1 : t / 16 = t1 := by have h := Ht1.out; unfold shF at h; simpa using h
        clear q8 q8' e0 e1 ha hs hl
        go_wp2_with fail
        go_meet
        exact ⟨rfl, rfl⟩
      · have r1 : t / 256 = t1 := by have h := Ht1.out; unfold shF at h; simpa using h
        clear q8 q8' e0 e1 ha hs hl
        go_wp2_with fail
        go_meet
        exact ⟨rfl, rfl⟩
      · have r1 : t / 65536 = t1 := by have h := Ht1.out; unfold shF at h; simpa using h
        clear q8 q8' e0 e1 ha hs hl
        go_wp2_with fail
        go_meet
        exact ⟨rfl, rfl⟩
      · have r1 : t / 4294967296 = t1 := by have h := Ht1.out; unfold shF at h; simpa using h
        clear q8 q8' e0 e1 ha hs hl
        go_wp2_with fail
        go_meet
        exact ⟨rfl, rfl⟩
    case rest =>
      obtain ⟨rfl, rfl⟩ := hcut
      have HS1 := HS
      have HB1 := Lib.hid (show Below B w w from Below.refl _ _)
      have HK1 := Lib.hid (show KN w w B from KN.of_below (Below.refl _ _))
      by_cases h01 : t0 = t1
      · skip
        have e2 : (t0 == t1) = true := by simpa using h01
        have hA : tabT n t0 acc = (AA, rr) := by have h := HT.out; rw [if_pos h01] at h; exact h.symm
        have C1 := Lib.hid (by have h := IH.out t0 acc w (by omega) ha.1 ha.2 (by omega) HS1.out; rw [hA] at h; exact h)
        clear h01 hA IH HT
        go_wp2_with fail
        refine (C1.out).mono ?_
        rintro e w2 ⟨rfl, hs2, hb2, hk2⟩
        have H2 := Lib.hid hs2
        have B2 := Lib.hid (HB1.out.trans hb2)
        have K2 := Lib.hid (HK1.out.trans hk2)
        clear hs2 hb2 hk2 C1
        go_wp2
        go_ret
        exact ⟨rfl, H2.out, B2.out, K2.out⟩
      · skip
        have e2 : (t0 == t1) = false := by simpa using h01
        obtain ⟨A1, p, h1⟩ : ∃ A1 p, tabT n t1 acc = (A1, p) := ⟨_, _, rfl⟩
        obtain ⟨A2, q, h2⟩ : ∃ A2 q, tabT n t0 A1 = (A2, q) := ⟨_, _, rfl⟩
        have l1 := tabT_len n t1 acc
        have l2 := tabT_len n t0 A1
        rw [h1] at l1
        rw [h2] at l2
        simp only at l1 l2
        have hAR : AA = mixE n A2 p q ∧ rr = ((mixD n A2 p q).length : Int) := by
          have h := HT.out
          rw [if_neg h01] at h
          simp only [h1, h2] at h
          exact ⟨(Prod.mk.inj h).1, (Prod.mk.inj h).2⟩
        obtain ⟨rfl, rfl⟩ := hAR
        have C1 := Lib.hid (by have h := IH.out t1 acc w (by omega) hs.1 hs.2 (by omega) HS1.out; rw [h1] at h; exact h)
        have IH2 := Lib.hid (fun W hS => by have h := IH.out t0 A1 W (by omega) ha.1 ha.2 (by omega) hS; rw [h2] at h; exact h)
        have hm := mix_lens n A2 p q
        have m2 : A2.length ≤ 968 := by omega
        have ma : (mixA n A2).length ≤ 980 := by omega
        have mo : (on (mixA n A2)).length ≤ 980 := by omega
        have mb : (mixB n A2 p).length ≤ 980 := by omega
        have mc : (mixC n A2 p).length ≤ 980 := by omega
        have md : (mixD n A2 p q).length ≤ 980 := by omega
        have HMo := Lib.hid (show ((on (mixA n A2)).length : Int) = ((mixA n A2).length : Int) + 1 by simp [on])
        have q16 : IntKind.i16.wrap (n : Int) = n := IntWalk.i16_in _ (by omega)
        clear h01 h1 h2 IH HT l1 l2 hm
        go_wp2_with fail
        refine (C1.out).mono ?_
        rintro e w2 ⟨rfl, hs2, hb2, hk2⟩
        have H2 := Lib.hid hs2
        have B2 := Lib.hid (HB1.out.trans hb2)
        have K2 := Lib.hid (HK1.out.trans hk2)
        have C2 := Lib.hid (IH2.out w2 H2.out)
        clear hs2 hb2 hk2 C1
        go_wp2_with fail
        refine (C2.out).mono ?_
        rintro e w3 ⟨rfl, hs2, hb2, hk2⟩
        have H3 := Lib.hid hs2
        have B3 := Lib.hid (B2.out.trans hb2)
        have K3 := Lib.hid (K2.out.trans hk2)
        clear hs2 hb2 hk2 C2 IH2
        have C4 := Lib.hid (show Calls Try.prog 36 #[.pointer (some ⟨B, 0, none⟩), .int .i8 0, .int .i16 (n : Int), .int .i16 0] w3 (BP B 66 (mixA n A2) ((A2.length : Int)) w3) from add_any B (A2) 0 (n : Int) 0 w3 H3.out (by omega))
        go_wp2_with fail
        refine (C4.out).mono ?_
        rintro e w4 ⟨rfl, hs2, hb2, hk2⟩
        have H4 := Lib.hid hs2
        have B4 := Lib.hid (B3.out.trans hb2)
        have K4 := Lib.hid (K3.out.trans hk2)
        clear hs2 hb2 hk2 C4
        have C5 := Lib.hid (show Calls Try.prog 36 #[.pointer (some ⟨B, 0, none⟩), .int .i8 1, .int .i16 0, .int .i16 0] w4 (BP B 66 (on (mixA n A2)) (((mixA n A2).length : Int)) w4) from add_any B (mixA n A2) 1 0 0 w4 H4.out (by omega))
        go_wp2_with fail
        refine (C5.out).mono ?_
        rintro e w5 ⟨rfl, hs2, hb2, hk2⟩
        have H5 := Lib.hid hs2
        have B5 := Lib.hid (B4.out.trans hb2)
        have K5 := Lib.hid (K4.out.trans hk2)
        clear hs2 hb2 hk2 C5
        have C6 := Lib.hid (show Calls Try.prog 36 #[.pointer (some ⟨B, 0, none⟩), .int .i8 3, .int .i16 ((mixA n A2).length : Int), .int .i16 p] w5 (BP B 66 (mixB n A2 p) (((on (mixA n A2)).length : Int)) w5) from add_any B (on (mixA n A2)) 3 ((mixA n A2).length : Int) p w5 H5.out (by omega))
        go_wp2_with fail
        refine (C6.out).mono ?_
        rintro e w6 ⟨rfl, hs2, hb2, hk2⟩
        have H6 := Lib.hid hs2
        have B6 := Lib.hid (B5.out.trans hb2)
        have K6 := Lib.hid (K5.out.trans hk2)
        clear hs2 hb2 hk2 C6
        have C7 := Lib.hid (show Calls Try.prog 36 #[.pointer (some ⟨B, 0, none⟩), .int .i8 3, .int .i16 (A2.length : Int), .int .i16 ((on (mixA n A2)).length : Int)] w6 (BP B 66 (mixC n A2 p) (((mixB n A2 p).length : Int)) w6) from add_any B (mixB n A2 p) 3 (A2.length : Int) ((on (mixA n A2)).length : Int) w6 H6.out (by omega))
        go_wp2_with fail
        refine (C7.out).mono ?_
        rintro e w7 ⟨rfl, hs2, hb2, hk2⟩
        have H7 := Lib.hid hs2
        have B7 := Lib.hid (B6.out.trans hb2)
        have K7 := Lib.hid (K6.out.trans hk2)
        clear hs2 hb2 hk2 C7
        have C8 := Lib.hid (show Calls Try.prog 36 #[.pointer (some ⟨B, 0, none⟩), .int .i8 3, .int .i16 q, .int .i16 (A2.length : Int)] w7 (BP B 66 (mixD n A2 p q) (((mixC n A2 p).length : Int)) w7) from add_any B (mixC n A2 p) 3 q (A2.length : Int) w7 H7.out (by omega))
        go_wp2_with fail
        refine (C8.out).mono ?_
        rintro e w8 ⟨rfl, hs2, hb2, hk2⟩
        have H8 := Lib.hid hs2
        have B8 := Lib.hid (B7.out.trans hb2)
        have K8 := Lib.hid (K7.out.trans hk2)
        clear hs2 hb2 hk2 C8
        have C9 := Lib.hid (show Calls Try.prog 36 #[.pointer (some ⟨B, 0, none⟩), .int .i8 2, .int .i16 ((mixB n A2 p).length : Int), .int .i16 ((mixC n A2 p).length : Int)] w8 (BP B 66 (mixE n A2 p q) (((mixD n A2 p q).length : Int)) w8) from add_any B (mixD n A2 p q) 2 ((mixB n A2 p).length : Int) ((mixC n A2 p).length : Int) w8 H8.out (by omega))
        go_wp2_with fail
        refine (C9.out).mono ?_
        rintro e w9 ⟨rfl, hs2, hb2, hk2⟩
        have H9 := Lib.hid hs2
        have B9 := Lib.hid (B8.out.trans hb2)
        have K9 := Lib.hid (K8.out.trans hk2)
        clear hs2 hb2 hk2 C9
        go_wp2
        go_ret
        exact ⟨rfl, H9.out, B9.out, K9.out⟩
end Go.Proofs.Ytdnjamlibnmpfaa
