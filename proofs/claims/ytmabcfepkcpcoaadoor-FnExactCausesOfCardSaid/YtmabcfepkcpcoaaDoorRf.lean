/- Calls that may be refused: the deferred closure that recovers; refusable; numbered. -/
import Derived.Test.YtmabcfepkcpcoaaDoorIw
import Derived.Defers
import Derived.Recover
import Derived.WalkLawsBesides
import Derived.Outline
namespace Go.Proofs.YtmabcfepkcpcoaaDoor
open Go.ChangeShapes Go.WideShapes Go.ChangeAt Go.RowKit
set_option linter.unusedVariables false
set_option linter.unusedSimpArgs false

theorem code_any (i : Int) (w : World) : Calls Tryd.prog 175 #[.int .i64 i] w fun e w' => e = .returned (.int .i64 2) ∧ w = w' := by
  go_enter Tryd.func175, Tryd.ntmps175
  go_wp2
  go_ret
  exact ⟨rfl, rfl⟩
theorem refusal_ta (i : Int) (w : World) : (Instr.typeAssert (.iface 152 (.int .i64 i)) 20 149 true).run Tryd.prog w = .ok (.tuple #[.iface 152 (.int .i64 i), .bool true]) w := by kernel_rfl
/-- the panic of an index without a piece -/
def noPieceP (i : Int) : PanicEntry := { v := .iface 152 (.int .i64 i), recovered := false }
theorem catchF_idle (p : Addr) (w : World) :
    CallsD Tryd.prog 116 #[.pointer (some p)] .returning w fun e u' w' => e = .returned (.tuple #[]) ∧ u' = .returning ∧ w' = w := by
  refine callsD_of_wpS Tryd.func116 rfl fun c₀ cs hu => ?_
  apply wpS_seq
  apply wpS_region
  simp [wpOpsS, go_sem, recoverD, hu, Tryd.ntmps116, Exit.thenS]
  apply wpS_seq
  apply wpS_seq
  apply wpS_region
  simp [wpOpsS, go_sem, Exit.thenS]
  refine wpS_cond (t := true) (by simp [Act.eval, Array.replicate]) ?_
  simp only [if_true]
  refine wpS_of_wp (wp_ret ?_)
  cases c₀
  simp_all [bodyPostS, results, Tryd.results116, Exit.thenS]
set_option maxRecDepth 100000 in
set_option maxHeartbeats 2000000 in
theorem catchF_refused (p : Addr) (x i : Int) (older : List PanicEntry) (w : World) (hc : w.cell? p = some (.int .i64 x)) (hz : w.frozen? p = false) :
    CallsD Tryd.prog 116 #[.pointer (some p)] (.panicking ({ v := .iface 152 (.int .i64 i), recovered := false } :: older)) w fun e u' w' =>
      e = .returned (.tuple #[]) ∧ u' = .panicking ({ v := .iface 152 (.int .i64 i), recovered := true } :: older) ∧ w' = (w.setCell p (.int .i64 1)).setCell p (.int .i64 2) := by
  refine callsD_of_wpS Tryd.func116 rfl fun c₀ cs hu => ?_
  apply wpS_seq
  apply wpS_region
  simp [wpOpsS, go_sem, recoverD, hu, Tryd.ntmps116, Exit.thenS]
  apply wpS_seq
  apply wpS_seq
  apply wpS_region
  simp [wpOpsS, go_sem, Exit.thenS]
  refine wpS_cond (t := false) (by simp [Act.eval, Array.replicate]) ?_
  simp only [Bool.false_eq_true, if_false]
  refine wpS_of_wp (wp_skip ?_)
  simp only [Exit.thenS]
  refine wpS_of_wp ?_
  have hta := refusal_ta
  have c1 : (w.setCell p (.int .i64 1)).cell? p = some (.int .i64 1) := World.cell?_setCell_same _ _ _ hc
  have z1 : (w.setCell p (.int .i64 1)).frozen? p = false := by rw [World.frozen?_setCell]; exact hz
  change Code.wp _ _ _ { tmps := #[.pointer (some p), .iface 152 (.int .i64 i), undef, undef, .iface 152 (.int .i64 i), .iface 152 (.int .i64 i), .bool false, undef, undef, undef, undef, undef, undef, undef, undef], defers := [] } _
  go_wp2_with fail
  refine (code_any i _).mono ?_
  rintro e w' ⟨rfl, rfl⟩
  go_wp2
  cases c₀
  simp_all [bodyPostS, results, Tryd.results116, Exit.thenS]
theorem catchI_idle (p : Addr) (w : World) :
    CallsD Tryd.prog 111 #[.pointer (some p)] .returning w fun e u' w' => e = .returned (.tuple #[]) ∧ u' = .returning ∧ w' = w := by
  refine callsD_of_wpS Tryd.func111 rfl fun c₀ cs hu => ?_
  apply wpS_seq
  apply wpS_region
  simp [wpOpsS, go_sem, recoverD, hu, Tryd.ntmps111, Exit.thenS]
  apply wpS_seq
  apply wpS_seq
  apply wpS_region
  simp [wpOpsS, go_sem, Exit.thenS]
  refine wpS_cond (t := true) (by simp [Act.eval, Array.replicate]) ?_
  simp only [if_true]
  refine wpS_of_wp (wp_ret ?_)
  cases c₀
  simp_all [bodyPostS, results, Tryd.results111, Exit.thenS]
set_option maxRecDepth 100000 in
set_option maxHeartbeats 2000000 in
theorem catchI_refused (p : Addr) (x i : Int) (older : List PanicEntry) (w : World) (hc : w.cell? p = some (.int .i64 x)) (hz : w.frozen? p = false) :
    CallsD Tryd.prog 111 #[.pointer (some p)] (.panicking ({ v := .iface 152 (.int .i64 i), recovered := false } :: older)) w fun e u' w' =>
      e = .returned (.tuple #[]) ∧ u' = .panicking ({ v := .iface 152 (.int .i64 i), recovered := true } :: older) ∧ w' = (w.setCell p (.int .i64 1)).setCell p (.int .i64 2) := by
  refine callsD_of_wpS Tryd.func111 rfl fun c₀ cs hu => ?_
  apply wpS_seq
  apply wpS_region
  simp [wpOpsS, go_sem, recoverD, hu, Tryd.ntmps111, Exit.thenS]
  apply wpS_seq
  apply wpS_seq
  apply wpS_region
  simp [wpOpsS, go_sem, Exit.thenS]
  refine wpS_cond (t := false) (by simp [Act.eval, Array.replicate]) ?_
  simp only [Bool.false_eq_true, if_false]
  refine wpS_of_wp (wp_skip ?_)
  simp only [Exit.thenS]
  refine wpS_of_wp ?_
  have hta := refusal_ta
  have c1 : (w.setCell p (.int .i64 1)).cell? p = some (.int .i64 1) := World.cell?_setCell_same _ _ _ hc
  have z1 : (w.setCell p (.int .i64 1)).frozen? p = false := by rw [World.frozen?_setCell]; exact hz
  change Code.wp _ _ _ { tmps := #[.pointer (some p), .iface 152 (.int .i64 i), undef, undef, .iface 152 (.int .i64 i), .iface 152 (.int .i64 i), .bool false, undef, undef, undef, undef, undef, undef, undef, undef], defers := [] } _
  go_wp2_with fail
  refine (code_any i _).mono ?_
  rintro e w' ⟨rfl, rfl⟩
  go_wp2
  cases c₀
  simp_all [bodyPostS, results, Tryd.results111, Exit.thenS]
set_option maxRecDepth 100000 in
set_option maxHeartbeats 2000000 in
theorem numberedPc_ok (b o n cap : Nat) (i : Nat) (l : List Pc) (p : Pc) (w : World) (hn : l.length = n) (hc : PcsAt w b o l) (hb : b < w.heap.size) (hle : n ≤ cap) (hmax : n ≤ 1048576) (hi : i < n) (hp : l[i]? = some p) :
    Calls Tryd.prog 87 #[.slice (some ⟨b, o, none⟩) n cap, .int .i64 i] w fun e w' => e = .returned (.agg #[.int .i8 p.x, .int .i8 p.y, .int .i8 p.kind, .int .i8 p.turn, .int .i8 p.delay]) ∧ Below w.heap.size w w' := by
  have hil : i < l.length := by omega
  have hk : Below w.heap.size w (w.alloc (.cells #[.int .i8 0, .int .i8 0, .int .i8 0, .int .i8 0, .int .i8 0] 114)) := by repeat (first | with_reducible exact Below.refl _ _ | (with_reducible refine kSet ?_ ?hB _; case hB => (simp; try omega)) | with_reducible refine kAlloc ?_ _ | with_reducible refine Below.drew ?_ | with_reducible refine kDrewN ?_ _ | with_reducible refine kTrans ?_ (by assumption))
  have hpi : l[i] = p := (List.getElem?_eq_some_iff.1 hp).2
  obtain ⟨a0, a1, a2, a3, a4⟩ := (hc.below hk hb) i hil
  rw [hpi] at a0 a1 a2 a3 a4
  have hii : (i : Int) < (n : Int) := by omega
  have hi0 : ¬ (i : Int) < 0 := by omega
  have e1 : decide ((i : Int) < 0) = false := by simp
  have e2 : decide ((n : Int) ≤ (i : Int)) = false := by simp; omega
  have rs := heap_alloc_new w (.cells #[.int .i8 0, .int .i8 0, .int .i8 0, .int .i8 0, .int .i8 0] 114)
  clear hc hp hpi hil hn hk
  go_enter Tryd.func87, Tryd.ntmps87
  go_wp2_with (refine wpList_store_row rfl 114 _ _ rfl (w.heap.size) #[.int .i8 p.x, .int .i8 p.y, .int .i8 p.kind, .int .i8 p.turn, .int .i8 p.delay] rfl rfl 114 _ rs (by kernel_rfl) (by kernel_rfl) (by kernel_rfl) ?_)
  refine bodyPost_ret (v := .agg #[.int .i8 p.x, .int .i8 p.y, .int .i8 p.kind, .int .i8 p.turn, .int .i8 p.delay]) (results_cell_row rfl _ _ (w.heap.size) 114 #[.int .i8 p.x, .int .i8 p.y, .int .i8 p.kind, .int .i8 p.turn, .int .i8 p.delay] (0, 0) _ rfl (setRow_heap _ _ _ _ _ _ rs) Tryd.underlying114 rfl (by kernel_rfl)) rfl ?_
  exact ⟨rfl, kRowW (kAlloc (Below.refl _ _) _) (Nat.le_refl _) _⟩
set_option maxRecDepth 100000 in
set_option maxHeartbeats 2000000 in
theorem numberedPc_no (a : Option Addr) (n cap : Nat) (i : Int) (w : World) (hmax : n ≤ 1048576) (hi : i < 0 ∨ (n : Int) ≤ i) :
    Calls Tryd.prog 87 #[.slice a n cap, .int .i64 i] w fun e w' => e = .panicked [noPieceP i] ∧ Below w.heap.size w w' := by
  by_cases h0 : i < 0
  · have e1 : decide (i < 0) = true := by simpa using h0
    clear hi
    go_enter Tryd.func87, Tryd.ntmps87
    go_wp2
    exact ⟨rfl, rfl, kAlloc (Below.refl _ _) _⟩
  · have h1 : (n : Int) ≤ i := by omega
    have e1 : decide (i < 0) = false := by simpa using h0
    have e2 : decide ((n : Int) ≤ i) = true := by simpa using h1
    clear hi
    go_enter Tryd.func87, Tryd.ntmps87
    go_wp2
    exact ⟨rfl, rfl, kAlloc (Below.refl _ _) _⟩
set_option maxRecDepth 100000 in
set_option maxHeartbeats 2000000 in
theorem numberedFl_ok (b o n cap : Nat) (i : Nat) (l : List Fl) (p : Fl) (w : World) (hn : l.length = n) (hc : FlsAt w b o l) (hb : b < w.heap.size) (hle : n ≤ cap) (hmax : n ≤ 1048576) (hi : i < n) (hp : l[i]? = some p) :
    Calls Tryd.prog 76 #[.slice (some ⟨b, o, none⟩) n cap, .int .i64 i] w fun e w' => e = .returned (.agg #[.int .i64 p.tick, .int .i8 p.frm, .int .i64 p.who]) ∧ Below w.heap.size w w' := by
  have hil : i < l.length := by omega
  have hk : Below w.heap.size w (w.alloc (.cells #[.int .i64 0, .int .i8 0, .int .i64 0] 91)) := by repeat (first | with_reducible exact Below.refl _ _ | (with_reducible refine kSet ?_ ?hB _; case hB => (simp; try omega)) | with_reducible refine kAlloc ?_ _ | with_reducible refine Below.drew ?_ | with_reducible refine kDrewN ?_ _ | with_reducible refine kTrans ?_ (by assumption))
  have hpi : l[i] = p := (List.getElem?_eq_some_iff.1 hp).2
  obtain ⟨a0, a1, a2⟩ := (hc.below hk hb) i hil
  rw [hpi] at a0 a1 a2
  have hii : (i : Int) < (n : Int) := by omega
  have hi0 : ¬ (i : Int) < 0 := by omega
  have e1 : decide ((i : Int) < 0) = false := by simp
  have e2 : decide ((n : Int) ≤ (i : Int)) = false := by simp; omega
  have rs := heap_alloc_new w (.cells #[.int .i64 0, .int .i8 0, .int .i64 0] 91)
  clear hc hp hpi hil hn hk
  go_enter Tryd.func76, Tryd.ntmps76
  go_wp2_with (refine wpList_store_row rfl 91 _ _ rfl (w.heap.size) #[.int .i64 p.tick, .int .i8 p.frm, .int .i64 p.who] rfl rfl 91 _ rs (by kernel_rfl) (by kernel_rfl) (by kernel_rfl) ?_)
  refine bodyPost_ret (v := .agg #[.int .i64 p.tick, .int .i8 p.frm, .int .i64 p.who]) (results_cell_row rfl _ _ (w.heap.size) 91 #[.int .i64 p.tick, .int .i8 p.frm, .int .i64 p.who] (0, 0) _ rfl (setRow_heap _ _ _ _ _ _ rs) Tryd.underlying91 rfl (by kernel_rfl)) rfl ?_
  exact ⟨rfl, kRowW (kAlloc (Below.refl _ _) _) (Nat.le_refl _) _⟩
set_option maxRecDepth 100000 in
set_option maxHeartbeats 2000000 in
theorem numberedFl_no (a : Option Addr) (n cap : Nat) (i : Int) (w : World) (hmax : n ≤ 1048576) (hi : i < 0 ∨ (n : Int) ≤ i) :
    Calls Tryd.prog 76 #[.slice a n cap, .int .i64 i] w fun e w' => e = .panicked [noPieceP i] ∧ Below w.heap.size w w' := by
  by_cases h0 : i < 0
  · have e1 : decide (i < 0) = true := by simpa using h0
    clear hi
    go_enter Tryd.func76, Tryd.ntmps76
    go_wp2
    exact ⟨rfl, rfl, kAlloc (Below.refl _ _) _⟩
  · have h1 : (n : Int) ≤ i := by omega
    have e1 : decide (i < 0) = false := by simpa using h0
    have e2 : decide ((n : Int) ≤ i) = true := by simpa using h1
    clear hi
    go_enter Tryd.func76, Tryd.ntmps76
    go_wp2
    exact ⟨rfl, rfl, kAlloc (Below.refl _ _) _⟩
end Go.Proofs.YtmabcfepkcpcoaaDoor
