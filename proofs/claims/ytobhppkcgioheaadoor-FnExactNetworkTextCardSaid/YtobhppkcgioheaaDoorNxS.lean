/- NetworkText: the model. -/
import Derived.Test.YtobhppkcgioheaaDoorNx0
namespace Go.Proofs.YtobhppkcgioheaaDoor
open Go.ChangeShapes Go.WideShapes Go.ChangeAt Go.RowKit Go.Joins Go.Deep
set_option linter.unusedVariables false
set_option linter.unusedSimpArgs false

set_option maxRecDepth 100000 in
set_option maxHeartbeats 16000000 in
theorem l04Text_any (bb b k : Nat) (ni : Int) (l : List Nd) (p : List Int) (w : World) (h0 : NwAt w bb ni (.slice (some ⟨b, 0, none⟩) l.length l.length) (.slice (some ⟨k, 0, none⟩) p.length p.length)) (h : NK w b k l p) (hR : netOk ni l p = true) (S : ByteArray) (hS : bsT (nwL ni l p) = S) :
    Calls Tryd.prog 83 #[.pointer (some ⟨bb, 0, none⟩)] w fun e w' => e = .returned (.string S) ∧ Below w.heap.size w w' := by
  obtain ⟨hni, hn80, hq8, _, hou⟩ := netOk_parts hR
  have hoa := outsOkN_all hou
  have HQ := Lib.hid (fun x (hx : x ∈ p) => (by have := hoa x hx; omega : 0 ≤ x ∧ x < 100))
  have HIN := Lib.hid (fun x (hx : x ∈ l) => ndIn_of hR hx)
  have H0 := Lib.hid (fun W => Decimal_any 100 ni W (by omega) (by omega) (by omega))
  have HLL := Lib.hid (fun r (h : ∀ x ∈ r, ndIn x) => nwL_len (ni := ni) (p := p) (by omega) (fun x hx => (HQ.out x hx).2) r h)
  have HJL := Lib.hid (fun j => join_len 2 (hdWs ni (p.take j)) (hd_small (by omega) (fun x hx => (HQ.out x (List.mem_of_mem_take hx)).2)))
  have i0 : IntKind.i64.wrap ni = ni := IntWalk.i64_in _ (by omega)
  have lbb := h0.lt
  have HX0 := Lib.hid (fun W2 (h2 : Below w.heap.size w W2) => h0.below h2 lbb)
  have HP := Lib.hid (fun W2 (h2 : Below w.heap.size w W2) => h.below h2)
  have HS := Lib.hid hS
  have hbW := h.z0
  have hkW := h.z1
  obtain ⟨a0, a1, a2⟩ := h0
  obtain ⟨D, hD⟩ : ∃ D, bsT (decL ni) = D := ⟨_, rfl⟩
  rw [hD] at H0
  have HST := Lib.hid (show bsT (Lib.join (hdWs ni (p.take 0)) [32]) = D by rw [hdWs_zero, ← hD]; simp [Lib.join_cons, Lib.joinTail])
  clear h hR hS hD hou hoa
  go_enter Tryd.func83, Tryd.ntmps83
  go_wp2_with fail
  refine (H0.out _).mono ?_
  rintro e w1 ⟨rfl, hb1⟩
  have HB1 := Lib.hid hb1
  clear hb1 a0 a1 a2 H0 i0
  go_wp2
  go_loopw [3, 4] (fun s i wr => ∃ (j : Nat) (O : ByteArray), j ≤ p.length ∧ i = .int .i64 j ∧ s = .string O ∧ Hid (bsT (Lib.join (hdWs ni (p.take j)) [32]) = O) ∧ Hid (Below w.heap.size w wr)) (fun _ i _ => p.length - (intOf i).toNat)
  case atStart => exact ⟨0, _, by omega, rfl, rfl, HST, HB1⟩
  case round =>
    clear HST HB1
    obtain ⟨j, O, hj, rfl, rfl, hO, hB⟩ := hrel
    obtain ⟨x0, x1, x2⟩ := HX0.out _ hB.out
    have lx := Nat.lt_of_lt_of_le lbb hB.out.size
    have hjl := HJL.out j
    rw [hdWs_length, List.length_take] at hjl
    have hOs : O.size ≤ 40 := by rw [← hO.out, bsT_size]; omega
    by_cases hlt : j < p.length
    · have hc := (HP.out _ hB.out).p1 j hlt
      rw [Nat.zero_add] at hc
      have zk := Nat.lt_of_lt_of_le hkW hB.out.size
      have hq := HQ.out _ (List.getElem_mem hlt)
      have hT := hdWs_succ ni hlt
      obtain ⟨y, hy⟩ : ∃ y, p[j] = y := ⟨_, rfl⟩
      rw [hy] at hc hq hT
      have HD := Lib.hid (fun W => Decimal_any 100 y W (by omega) (by omega) (by omega))
      have hl2 := decL_len2 hq.2
      have iy : IntKind.i64.wrap y = y := IntWalk.i64_in _ (by omega)
      obtain ⟨X, hX⟩ : ∃ X, bsT (decL y) = X := ⟨_, rfl⟩
      have sX : X.size ≤ 2 := by rw [← hX, bsT_size]; exact hl2
      rw [hX] at HD
      have HN := Lib.hid (show bsT (Lib.join (hdWs ni (p.take (j + 1))) [32]) = O ++ (⟨#[32]⟩ ++ X) by
        rw [hT, join_snoc _ _ _ (by simp [hdWs]), ← bsT_app, ← bsT_app, hO.out, hX]; rfl)
      have z1 : ¬ 9223372036854775807 < 1 + X.size := by omega
      have z2 : ¬ 9223372036854775807 < O.size + (1 + X.size) := by omega
      clear hy hq hX hT hl2 hO hjl hOs sX
      go_wp2_with fail
      refine (HD.out _).mono ?_
      rintro e w3 ⟨rfl, hb3⟩
      have HB3 := Lib.hid (kTrans hB.out hb3)
      clear hb3 hB HD hc
      go_wp2
      exact ⟨⟨j + 1, _, by omega, by go_num, rfl, HN, HB3⟩, by simp [intOf]; omega⟩
    · obtain rfl : j = p.length := by omega
      have HST := Lib.hid (show bsT (nwL ni (l.take 0) p) = O ++ ⟨#[10]⟩ by
        have h := hO.out
        rw [List.take_length] at h
        rw [nwL_zero, ← h, show (⟨#[10]⟩ : ByteArray) = bsT [10] from rfl, bsT_app]; rfl)
      have z1 : ¬ 9223372036854775807 < O.size + 1 := by omega
      clear hO hjl hOs
      go_wp2
      go_loopw [3, 5, 6] (fun s i pp wr => ∃ (j : Nat) (O : ByteArray) (v : Value), j ≤ l.length ∧ i = .int .i64 j ∧ s = .string O ∧ pp = v ∧ Hid (bsT (nwL ni (l.take j) p) = O) ∧ Hid (Below w.heap.size w wr)) (fun _ i _ _ => l.length - (intOf i).toNat)
      case atStart => exact ⟨0, _, _, by omega, rfl, rfl, rfl, HST, hB⟩
      case round =>
        clear HST hB z1 x0 x1 x2 lx
        obtain ⟨j, O, v, hj, rfl, rfl, rfl, hO, hB⟩ := hrel
        obtain ⟨x0, x1, x2⟩ := HX0.out _ hB.out
        have lx := Nat.lt_of_lt_of_le lbb hB.out.size
        clear x0 x2
        by_cases hlk : j < l.length
        · obtain ⟨x, hpj⟩ : ∃ x, l[j] = x := ⟨_, rfl⟩
          have hin := HIN.out x (by rw [← hpj]; exact List.getElem_mem hlk)
          have hll := HLL.out (l.take j) (fun q hq => HIN.out q (List.mem_of_mem_take hq))
          rw [List.length_take] at hll
          have hOs : O.size ≤ 2000 := by rw [← hO.out, bsT_size]; omega
          have hpl := ndLine_len hin
          have HNX := Lib.hid (show nwL ni (l.take (j + 1)) p = nwL ni (l.take j) p ++ ndLine x by rw [nwL_succ ni p hlk, hpj])
          obtain ⟨a0, a1, a2⟩ := (show NdAt _ b (0 + j * 3) x by have h := (HP.out _ hB.out).p0 j hlk; rw [hpj] at h; exact h)
          simp only [Nat.zero_add] at a0 a1 a2
          have zb := Nat.lt_of_lt_of_le hbW hB.out.size
          unfold ndIn at hin
          have HA := Lib.hid (fun W => Decimal_any 100 x.a W (by omega) (by omega) (by omega))
          have HC := Lib.hid (fun W => Decimal_any 100 x.b W (by omega) (by omega) (by omega))
          have ia : IntKind.i64.wrap x.a = x.a := IntWalk.i64_in _ (by omega)
          have ib : IntKind.i64.wrap x.b = x.b := IntWalk.i64_in _ (by omega)
          have la := decL_len2 (n := x.a) (by omega)
          have lb := decL_len2 (n := x.b) (by omega)
          obtain ⟨nk, na, nb⟩ := x
          simp only at a0 a1 a2 hin HA HC ia ib la lb
          obtain ⟨DA, hDA⟩ : ∃ D, bsT (decL na) = D := ⟨_, rfl⟩
          obtain ⟨DB, hDB⟩ : ∃ D, bsT (decL nb) = D := ⟨_, rfl⟩
          have sA : DA.size ≤ 2 := by rw [← hDA, bsT_size]; exact la
          have sB : DB.size ≤ 2 := by rw [← hDB, bsT_size]; exact lb
          rw [hDA] at HA
          rw [hDB] at HC
          obtain ⟨w5, hw5⟩ : ∃ z, wr.alloc (.cells #[.int .i8 nk, .int .i16 na, .int .i16 nb] 119) = z := ⟨_, rfl⟩
          have k5 : Below wr.heap.size wr w5 := by rw [← hw5]; exact kAlloc (Below.refl _ _) _
          have b5 : w5.heap[wr.heap.size]? = some (.cells #[.int .i8 nk, .int .i16 na, .int .i16 nb] 119 (0, 0)) := by rw [← hw5]; exact nNewX _ _
          obtain ⟨N0, hN0⟩ : ∃ N0, wr.heap.size = N0 := ⟨_, rfl⟩
          rw [hN0] at b5
          have HN0 := Lib.hid hN0
          have q0 : w5.cell? ⟨N0, 0, none⟩ = some (.int .i8 nk) := cell_of_row _ _ 0 _ _ _ b5
          have q1 : w5.cell? ⟨N0, 1, none⟩ = some (.int .i16 na) := cell_of_row _ _ 1 _ _ _ b5
          have q2 : w5.cell? ⟨N0, 2, none⟩ = some (.int .i16 nb) := cell_of_row _ _ 2 _ _ _ b5
          have lq := blk_lt b5
          have Hw5 := Lib.hid hw5
          clear hw5 b5 hN0 hpj la lb
          go_upto_region 11 with fail
          try rw [Hw5.out]
          try rw [HN0.out]
          clear HN0
          have hkc : nk = 0 ∨ nk = 1 ∨ nk = 2 ∨ nk = 3 := by omega
          clear hin
          rcases hkc with rfl | rfl | rfl | rfl
          · skip
            have HN := Lib.hid (show bsT (nwL ni (l.take (j + 1)) p) = O ++ (⟨#[105, 110, 32]⟩ ++ DA ++ ⟨#[10]⟩) by
              rw [HNX.out, ← bsT_app, hO.out, ← hDA, show (⟨#[105, 110, 32]⟩ : ByteArray) = bsT [105, 110, 32] from rfl, show (⟨#[10]⟩ : ByteArray) = bsT [10] from rfl]
              simp only [bsT_app]
              show _ = _
              unfold ndLine ndWs
              simp [nodeWL, nodeFN, lineL, join2])
            have z1 : ¬ 9223372036854775807 < 3 + DA.size := by omega
            have z2 : ¬ 9223372036854775807 < 3 + DA.size + 1 := by omega
            have z5 : ¬ 9223372036854775807 < O.size + (3 + DA.size + 1) := by omega
            clear HNX hO hDA hDB hll hOs sA sB hpl HC
            go_upto_region 13 with fail
            try rw [Hw5.out]
            clear Hw5 x1 lx a0 a1 a2 zb
            have HB5 := Lib.hid (kTrans hB.out k5)
            clear hB k5
            go_wp2_with fail
            refine (HA.out _).mono ?_
            rintro e w6 ⟨rfl, hb6⟩
            have HB6 := Lib.hid (kTrans HB5.out hb6)
            clear hb6 HB5 q0 q1 q2 lq HA
            go_wp2
            exact ⟨⟨j + 1, _, _, by omega, by go_num, rfl, rfl, HN, HB6⟩, by simp [intOf]; omega⟩
          · skip
            have HN := Lib.hid (show bsT (nwL ni (l.take (j + 1)) p) = O ++ ⟨#[111, 110, 101, 10]⟩ by
              rw [HNX.out, ← bsT_app, hO.out, show (⟨#[111, 110, 101, 10]⟩ : ByteArray) = bsT [111, 110, 101, 10] from rfl]
              show _ = _
              unfold ndLine ndWs
              simp [nodeWL, nodeFN, lineL, Lib.join_cons, Lib.joinTail])
            have z5 : ¬ 9223372036854775807 < O.size + 4 := by omega
            clear HNX hO hDA hDB hll hOs sA sB hpl HC HA
            go_upto_region 15 with fail
            try rw [Hw5.out]
            clear Hw5 x1 lx a0 a1 a2 zb
            have HB5 := Lib.hid (kTrans hB.out k5)
            clear hB k5 q0 q1 q2 lq
            go_wp2
            exact ⟨⟨j + 1, _, _, by omega, by go_num, rfl, rfl, HN, HB5⟩, by simp [intOf]; omega⟩
          · skip
            have HN := Lib.hid (show bsT (nwL ni (l.take (j + 1)) p) = O ++ (⟨#[111, 114, 32]⟩ ++ DA ++ ⟨#[32]⟩ ++ DB ++ ⟨#[10]⟩) by
              rw [HNX.out, ← bsT_app, hO.out, ← hDA, ← hDB, show (⟨#[111, 114, 32]⟩ : ByteArray) = bsT [111, 114, 32] from rfl, show (⟨#[32]⟩ : ByteArray) = bsT [32] from rfl, show (⟨#[10]⟩ : ByteArray) = bsT [10] from rfl]
              simp only [bsT_app]
              show _ = _
              unfold ndLine ndWs
              simp [nodeWL, nodeFN, lineL, join3])
            have z1 : ¬ 9223372036854775807 < 3 + DA.size := by omega
            have z2 : ¬ 9223372036854775807 < 3 + DA.size + 1 := by omega
            have z3 : ¬ 9223372036854775807 < 3 + DA.size + 1 + DB.size := by omega
            have z4 : ¬ 9223372036854775807 < 3 + DA.size + 1 + DB.size + 1 := by omega
            have z5 : ¬ 9223372036854775807 < O.size + (3 + DA.size + 1 + DB.size + 1) := by omega
            clear HNX hO hDA hDB hll hOs sA sB hpl
            go_upto_region 17 with fail
            try rw [Hw5.out]
            clear Hw5 x1 lx a0 a1 a2 zb
            have HB5 := Lib.hid (kTrans hB.out k5)
            clear hB k5
            refine wp_region_class (fun w' => Below w5.heap.size w5 w') (by kernel_rfl) (by kernel_rfl) (Below.drew (Below.refl _ _)) ?_
            repeat (first
              | go_big_quiet_skip
              | (go_big_quiet_want; go_big_quiet_op; go_big_quiet_on)
              | (refine wpQuiet_step (fun K hK => ?_)
                 go_simp
                 refine hK _ ?_
                 clear hK K)
              | (refine wpQuiet_step (fun K hK => ?_)
                 go_simp
                 apply Exists.intro
                 refine ⟨fun w1 hw1 => ?_, hK _ ?_⟩
                 · first
                   | exact rfl
                   | (go_at_call 121
                      (with_reducible refine (HA.out _).mono ?_)
                      exact fun e w2 h => ⟨h.1, kTrans hw1 h.2⟩)
                   | (go_at_call 121
                      (with_reducible refine (HC.out _).mono ?_)
                      exact fun e w2 h => ⟨h.1, kTrans hw1 h.2⟩)
                   | (have d1 := (hw1.cell (p := ⟨N0, 1, none⟩) lq).trans q1
                      have d2 := (hw1.cell (p := ⟨N0, 2, none⟩) lq).trans q2
                      go_simp
                      exact rfl)
                 clear hK K))
            refine wpQuiet_nil ?_
            intro w6 hb6
            have HB6 := Lib.hid (kTrans HB5.out hb6)
            clear hb6 HB5 q0 q1 q2 lq HA HC
            go_wp2
            exact ⟨⟨j + 1, _, _, by omega, by go_num, rfl, rfl, HN, HB6⟩, by simp [intOf]; omega⟩
          · skip
            have HN := Lib.hid (show bsT (nwL ni (l.take (j + 1)) p) = O ++ (⟨#[117, 110, 108, 101, 115, 115, 32]⟩ ++ DA ++ ⟨#[32]⟩ ++ DB ++ ⟨#[10]⟩) by
              rw [HNX.out, ← bsT_app, hO.out, ← hDA, ← hDB, show (⟨#[117, 110, 108, 101, 115, 115, 32]⟩ : ByteArray) = bsT [117, 110, 108, 101, 115, 115, 32] from rfl, show (⟨#[32]⟩ : ByteArray) = bsT [32] from rfl, show (⟨#[10]⟩ : ByteArray) = bsT [10] from rfl]
              simp only [bsT_app]
              show _ = _
              unfold ndLine ndWs
              simp [nodeWL, nodeFN, lineL, join3])
            have z1 : ¬ 9223372036854775807 < 7 + DA.size := by omega
            have z2 : ¬ 9223372036854775807 < 7 + DA.size + 1 := by omega
            have z3 : ¬ 9223372036854775807 < 7 + DA.size + 1 + DB.size := by omega
            have z4 : ¬ 9223372036854775807 < 7 + DA.size + 1 + DB.size + 1 := by omega
            have z5 : ¬ 9223372036854775807 < O.size + (7 + DA.size + 1 + DB.size + 1) := by omega
            clear HNX hO hDA hDB hll hOs sA sB hpl
            go_upto_region 19 with fail
            try rw [Hw5.out]
            clear Hw5 x1 lx a0 a1 a2 zb
            have HB5 := Lib.hid (kTrans hB.out k5)
            clear hB k5
            refine wp_region_class (fun w' => Below w5.heap.size w5 w') (by kernel_rfl) (by kernel_rfl) (Below.drew (Below.refl _ _)) ?_
            repeat (first
              | go_big_quiet_skip
              | (go_big_quiet_want; go_big_quiet_op; go_big_quiet_on)
              | (refine wpQuiet_step (fun K hK => ?_)
                 go_simp
                 refine hK _ ?_
                 clear hK K)
              | (refine wpQuiet_step (fun K hK => ?_)
                 go_simp
                 apply Exists.intro
                 refine ⟨fun w1 hw1 => ?_, hK _ ?_⟩
                 · first
                   | exact rfl
                   | (go_at_call 121
                      (with_reducible refine (HA.out _).mono ?_)
                      exact fun e w2 h => ⟨h.1, kTrans hw1 h.2⟩)
                   | (go_at_call 121
                      (with_reducible refine (HC.out _).mono ?_)
                      exact fun e w2 h => ⟨h.1, kTrans hw1 h.2⟩)
                   | (have d1 := (hw1.cell (p := ⟨N0, 1, none⟩) lq).trans q1
                      have d2 := (hw1.cell (p := ⟨N0, 2, none⟩) lq).trans q2
                      go_simp
                      exact rfl)
                 clear hK K))
            refine wpQuiet_nil ?_
            intro w6 hb6
            have HB6 := Lib.hid (kTrans HB5.out hb6)
            clear hb6 HB5 q0 q1 q2 lq HA HC
            go_wp2
            exact ⟨⟨j + 1, _, _, by omega, by go_num, rfl, rfl, HN, HB6⟩, by simp [intOf]; omega⟩
        · obtain rfl : j = l.length := by omega
          obtain rfl : O = S := by have h := hO.out; rw [List.take_length] at h; rw [← h]; exact HS.out
          clear hO
          go_wp2
          go_ret
          exact ⟨rfl, hB.out⟩
set_option maxRecDepth 100000 in
set_option maxHeartbeats 2000000 in
theorem specNetworkText_any (b k : Nat) (ni : Int) (l : List Nd) (p : List Int) (w : World) (h : NK w b k l p) (h8 : NdsWf l) (h9 : ShsWf p) (bw : i8 ni) (m0 : l.length ≤ 1048576) (m1 : p.length ≤ 1048576) (R : Bool) (hR : R = netOk ni l p) (S : ByteArray) (hS : bsT (ntQ R ni l p) = S) :
    Calls Tryd.prog 39 #[.agg #[.int .i8 ni, .slice (some ⟨b, 0, none⟩) l.length l.length, .slice (some ⟨k, 0, none⟩) p.length p.length]] w fun e w' => e = .returned (.string S) ∧ Below w.heap.size w w' := by
  obtain ⟨W0, hW⟩ : ∃ W0, w.alloc (.cells #[.int .i8 ni, .slice (some ⟨b, 0, none⟩) l.length l.length, .slice (some ⟨k, 0, none⟩) p.length p.length] 56) = W0 := ⟨_, rfl⟩
  have k0 : Below w.heap.size w W0 := by rw [← hW]; exact kAlloc (Below.refl _ _) _
  have hN : NwAt W0 w.heap.size ni (.slice (some ⟨b, 0, none⟩) l.length l.length) (.slice (some ⟨k, 0, none⟩) p.length p.length) := by rw [← hW]; exact NwAt.box w ni _ _ 56
  have lN := hN.lt
  have HO := Lib.hid (l04Ok_any w.heap.size b k ni l p W0 hN (h.below k0) h8 h9 bw m0 m1 R hR)
  have HTX := Lib.hid (fun W2 (h2 : Below W0.heap.size W0 W2) (hr : R = true) => l04Text_any w.heap.size b k ni l p W2 (hN.below h2 lN) (h.below (kTrans k0 h2)) (by rw [← hR]; exact hr) S (by rw [← hS]; unfold ntQ; rw [if_pos hr]))
  have HS := Lib.hid (fun (hr : R = false) => (by rw [← hS, hr]; rfl : (⟨#[]⟩ : ByteArray) = S))
  have HK0 := Lib.hid k0
  have HW := Lib.hid hW
  clear h h8 h9 hR hS hW k0 hN
  go_enter Tryd.func39, Tryd.ntmps39
  go_upto_region 1 with fail
  try rw [HW.out]
  go_wp2_with fail
  refine HO.out.mono ?_
  rintro e w1 ⟨rfl, hb1⟩
  have HB1 := Lib.hid hb1
  clear HO HW hb1
  cases R with
  | false =>
    obtain rfl := HS.out rfl
    clear HS HTX
    go_wp2
    go_ret
    exact ⟨rfl, kTrans HK0.out HB1.out⟩
  | true =>
    have HT2 := Lib.hid (HTX.out _ HB1.out rfl)
    clear HS HTX
    go_wp2_with fail
    refine HT2.out.mono ?_
    rintro e w2 ⟨rfl, hb2⟩
    have T2 := Lib.hid (kTrans HK0.out (kTrans HB1.out hb2))
    clear hb2
    go_wp2
    go_ret
    exact ⟨rfl, T2.out⟩
end Go.Proofs.YtobhppkcgioheaaDoor
