/- The program's run: how all pieces fall. -/
import Derived.Test.YtflkfkbdgekpkaaDoorG10
import Derived.Test.YtflkfkbdgekpkaaDoorG7
import Derived.Deep.LoopGhost
import Derived.Outline
import Derived.Deep.DeepCutAuto
namespace Go.Proofs.YtflkfkbdgekpkaaDoor
open Go.ChangeShapes Go.WideShapes Go.ChangeAt Go.RowKit Go.Shelf
set_option linter.unusedVariables false
set_option linter.unusedSimpArgs false

/-- the package's variable 'stays' -/
def StayAt (w : World) : Prop := FlAt w 0 0 stay ∧ 0 < w.heap.size
theorem StayAt.below {w w' : World} (h : StayAt w) (b : Below w.heap.size w w') : StayAt w' := ⟨h.1.below b h.2, Nat.lt_of_lt_of_le h.2 b.size⟩
/-- hits that wait are as they may be -/
def QFine (m : Nat) (t : Int) (F : Nat → Fl) (Q : List Ht) : Prop := ∀ x ∈ Q, x.1 < m ∧ x.2.fine m (1000 + 9 * ((m - standing F m : Nat) : Int)) ∧ t ≤ x.2.tick
/-- falls are as they may be -/
def FFine (m : Nat) (F : Nat → Fl) : Prop := ∀ k, k < m → 0 ≤ (F k).tick → (F k).fine m 2800
/-- what holds between two hits -/
structure RunI (lb : List Pc) (l : List Pu) (m : Nat) (t : Int) (F : Nat → Fl) (Q : List Ht) : Prop where
  inv : InvQ (gameL lb l) F Q
  fine : QFine m t F Q
  len : Q.length + 4 * standing F m ≤ 20 + 4 * m
  falls : FFine m F
theorem Fl.fine.mono {f : Fl} {n : Nat} {a b : Int} (h : f.fine n a) (hab : a ≤ b) : f.fine n b := by unfold Fl.fine at *; omega
theorem RunI.start {lb : List Pc} {l : List Pu} {m : Nat} (hm : lb.length = m) (hpl : ∀ q ∈ l, q.plain = true) (hl : l.length ≤ 20) : RunI lb l m 0 (fun _ => stay) (inss [] (insL lb l)) := by
  refine ⟨InvQ.start, fun x hx => ?_, ?_, fun k _ h => by simp [stay] at h⟩
  · rcases inss_mem.1 hx with h | h
    · simp at h
    · have := insL_fine hpl (.inr trivial) x h
      rw [hm] at this
      exact ⟨this.1, this.2.mono (by omega), this.2.1⟩
  · have h1 := insL_length lb l
    have h2 := standing_le (fun _ : Nat => stay) m
    rw [inss_length]
    simp only [List.length_nil]
    omega
theorem RunI.tick {lb : List Pc} {l : List Pu} {m : Nat} {t : Int} {F : Nat → Fl} {x : Ht} {Q : List Ht} (h : RunI lb l m t F (x :: Q)) (hx : t < x.2.tick) : RunI lb l m (t + 1) F (x :: Q) := by
  refine ⟨h.inv, fun y hy => ?_, h.len, h.falls⟩
  obtain ⟨h1, h2, h3⟩ := h.fine y hy
  refine ⟨h1, h2, ?_⟩
  rcases List.mem_cons.1 hy with rfl | hy
  · omega
  · have := leF_tick ((List.pairwise_cons.1 h.inv.d).1 y hy)
    omega
theorem RunI.none {lb : List Pc} {l : List Pu} {m : Nat} {t u : Int} {F : Nat → Fl} (h : RunI lb l m t F []) : RunI lb l m u F [] := ⟨h.inv, fun x hx => by simp at hx, h.len, h.falls⟩
theorem RunI.old {lb : List Pc} {l : List Pu} {m : Nat} {t : Int} {F : Nat → Fl} {x : Ht} {Q : List Ht} (hm : lb.length = m) (h : RunI lb l m t F (x :: Q)) (hx : 0 ≤ (F x.1).tick) : RunI lb l m t F Q := by
  refine ⟨h.inv.old (show x.1 < lb.length by rw [hm]; exact (h.fine x (List.mem_cons_self ..)).1) hx, fun y hy => h.fine y (List.mem_cons_of_mem _ hy), ?_, h.falls⟩
  have := h.len
  rw [List.length_cons] at this
  omega
theorem RunI.new {lb : List Pc} {l : List Pu} {m : Nat} {t : Int} {F : Nat → Fl} {k : Nat} {f : Fl} {Q : List Ht} (hm : lb.length = m) (hmm : m ≤ 200) (hok : ∀ q ∈ lb, q.ok = true) (hpl : ∀ q ∈ l, q.plain = true) (h : RunI lb l m t F ((k, f) :: Q)) (hx : (F k).tick < 0) :
    RunI lb l m t (set_ F k f) (inss Q (outsL lb k f)) ∧ standing (set_ F k f) m + 1 = standing F m := by
  obtain ⟨hk, hf, ht⟩ := h.fine (k, f) (List.mem_cons_self ..)
  have hst : standing (set_ F k f) m + 1 = standing F m := standing_set hx hf.1 m hk
  have hsl := standing_le F m
  refine ⟨⟨h.inv.new (gameL_ok hok hpl) hx, fun y hy => ?_, ?_, fun j hj h0 => ?_⟩, hst⟩
  · rcases inss_mem.1 hy with hy | hy
    · obtain ⟨h1, h2, h3⟩ := h.fine y (List.mem_cons_of_mem _ hy)
      exact ⟨h1, h2.mono (by omega), h3⟩
    · obtain ⟨h1, h2, h3⟩ := outsL_fine hok (by rw [hm]; exact hk) (by rw [hm]; exact hf) y hy
      rw [hm] at h1 h2
      simp only at ht
      exact ⟨h1, h2.mono (by omega), by omega⟩
  · have := h.len
    have h4 := outsL_length lb k f
    rw [inss_length]
    rw [List.length_cons] at this
    omega
  · by_cases e : j = k
    · subst e
      rw [set_same]
      exact hf.mono (by omega)
    · rw [set_ne _ _ e] at h0 ⊢
      exact h.falls j hj h0

theorem QRow.tail1 {T : TypeId} {w : World} {g o c base : Nat} {x : Ht} {Q : List Ht} (h : QRow T w g o c (x :: Q)) (hb : base ≤ g) (hc : c ≠ 1) (h0 : 0 < c) (h63 : c ≤ 9223372036854775807) : QAt T w base (.slice (some ⟨g, o * 4 + 4, none⟩) Q.length (c - 1)) Q := by
  obtain ⟨A, C, h1, h2, h3⟩ := h
  refine .inr ⟨g, o + 1, c - 1, by rw [show (o + 1) * 4 = o * 4 + 4 by omega], hb, by omega, by omega, A ++ htCells x, C, ?_, ?_, ?_⟩
  · rw [h1, flatH_cons]; simp
  · simp [htCells]; omega
  · rw [List.length_cons] at h3; omega

theorem QAt.of_from {T : TypeId} {w w' : World} {base : Nat} {v : Value} {Q : List Ht} (h : QAt T w base v Q) (e : ∀ k, base ≤ k → w'.heap[k]? = w.heap[k]?) : QAt T w' base v Q := by
  rcases h with h | ⟨g, o, c, rfl, hb, h0, hc, hr⟩
  · exact .inl h
  · exact .inr ⟨g, o, c, rfl, hb, h0, hc, hr.of_block (e g hb)⟩

/-- what run leaves -/
def RunPost (lb : List Pc) (l : List Pu) (m : Nat) (w : World) (e : Ending) (w' : World) : Prop :=
  ∃ g F, e = .returned (.slice (some ⟨g, 0, none⟩) m m) ∧ FRow w' g m F ∧ Sol (gameL lb l) F ∧ FFine m F ∧ w.heap.size ≤ g ∧ Below w.heap.size w w'
set_option maxRecDepth 100000 in
set_option maxHeartbeats 8000000 in
theorem run_any (B b o m cap pb np pc : Nat) (pa : Option Addr) (hpa : np = 0 ∨ pa = some ⟨pb, 0, none⟩) (wd hi : Int) (lb : List Pc) (l : List Pu) (w : World) (hm : lb.length = m) (hp : PcsAt w b o lb) (hb : b < w.heap.size) (hcap : m ≤ cap) (hmp : MapAt w B lb) (hok : ∀ q ∈ lb, q.ok = true) (hmm : m ≤ 200)
    (hnp : l.length = np) (hpu : PusAt w pb 0 l) (hpb : pb < w.heap.size) (hpl : ∀ q ∈ l, q.plain = true) (hnm : np ≤ 20) (hst : StayAt w) :
    Calls Tryd.prog 40 #[.agg #[.int .i8 wd, .int .i8 hi, .map (some B), .slice (some ⟨b, o, none⟩) m cap, .slice pa np pc]] w (RunPost lb l m w) := by
  have Hm := Lib.hid hm
  have Hp := Lib.hid hp
  have Hmp := Lib.hid hmp
  have Hok := Lib.hid hok
  have Hn := Lib.hid hnp
  have Hpu := Lib.hid hpu
  have Hpl := Lib.hid hpl
  have Hst := Lib.hid hst
  have hBl : B < w.heap.size := by obtain ⟨es, c, h1, _⟩ := hmp; exact blk_lt h1
  obtain ⟨W1, hW1⟩ : ∃ W1, w.alloc (.cells #[.int .i8 wd, .int .i8 hi, .map (some B), .slice (some ⟨b, o, none⟩) m cap, .slice pa np pc] 90) = W1 := ⟨_, rfl⟩
  have g1 : W1.heap[w.heap.size]? = some (.cells #[.int .i8 wd, .int .i8 hi, .map (some B), .slice (some ⟨b, o, none⟩) m cap, .slice pa np pc] 90 (0, 0)) := by rw [← hW1]; exact heap_alloc_new _ _
  have T1 : Below w.heap.size w W1 := by rw [← hW1]; exact kAlloc (Below.refl _ _) _
  obtain ⟨⟨y0, y1, y2⟩, hz0⟩ := hst.below T1
  simp only [stay, Nat.zero_add] at y0 y1 y2
  have cg_0 : W1.cell? ⟨w.heap.size, 0, none⟩ = some (.int .i8 wd) := cell_of_row _ _ 0 _ _ _ g1
  have cg_1 : W1.cell? ⟨w.heap.size, 1, none⟩ = some (.int .i8 hi) := cell_of_row _ _ 1 _ _ _ g1
  have cg_2 : W1.cell? ⟨w.heap.size, 2, none⟩ = some (.map (some B)) := cell_of_row _ _ 2 _ _ _ g1
  have cg_3 : W1.cell? ⟨w.heap.size, 3, none⟩ = some (.slice (some ⟨b, o, none⟩) m cap) := cell_of_row _ _ 3 _ _ _ g1
  have cg_4 : W1.cell? ⟨w.heap.size, 4, none⟩ = some (.slice pa np pc) := cell_of_row _ _ 4 _ _ _ g1
  have lg1 := blk_lt g1
  have HW1 := Lib.hid hW1
  have G1 := Lib.hid g1
  clear hm hp hmp hok hnp hpu hpl hst hW1 g1
  go_enter Tryd.func40, Tryd.ntmps40
  go_wp2
  go_step3
  go_upto_region 1 with fail
  rw [HW1.out]
  go_wp2_with fail
  refine (repeat_any W1.heap.size 1 m _ 73 (heap_alloc_new _ _) (by omega)).mono ?_
  rintro e W2 ⟨g, rfl, hF2, hg2, hb2⟩
  have hB12 : Below W1.heap.size W1 W2 := kTrans (kAlloc (Below.refl _ _) _) hb2
  have T2 : Below w.heap.size w W2 := kTrans T1 hB12
  have g2 := blk_below G1.out hB12
  have hwg : w.heap.size < g := by simp only [World.size_alloc] at hg2; omega
  clear cg_0 cg_1 cg_2 cg_3 cg_4 y0 y1 y2
  have cg_0 : W2.cell? ⟨w.heap.size, 0, none⟩ = some (.int .i8 wd) := cell_of_row _ _ 0 _ _ _ g2
  have cg_1 : W2.cell? ⟨w.heap.size, 1, none⟩ = some (.int .i8 hi) := cell_of_row _ _ 1 _ _ _ g2
  have cg_2 : W2.cell? ⟨w.heap.size, 2, none⟩ = some (.map (some B)) := cell_of_row _ _ 2 _ _ _ g2
  have cg_3 : W2.cell? ⟨w.heap.size, 3, none⟩ = some (.slice (some ⟨b, o, none⟩) m cap) := cell_of_row _ _ 3 _ _ _ g2
  have cg_4 : W2.cell? ⟨w.heap.size, 4, none⟩ = some (.slice pa np pc) := cell_of_row _ _ 4 _ _ _ g2
  have G2 := Lib.hid g2
  have HF2 := Lib.hid hF2
  have hgw2 := hF2.lt
  have hsz2 := T2.size
  clear hF2 hg2 hb2 hB12 g2 G1 HW1
  go_wp2_with fail
  refine (hitsByPushes_any wd hi B _ _ W2 ⟨_, _, _, rfl⟩ ⟨_, _, _, rfl⟩).mono ?_
  rintro e W3 ⟨rfl, hW3⟩
  have T3 : Below W2.heap.size W2 W3 := by rw [hW3]; exact kAlloc (Below.refl _ _) _
  have g3 : W3.heap[W2.heap.size]? = some (.cells #[.int .i8 wd, .int .i8 hi, .map (some B), .slice (some ⟨b, o, none⟩) m cap, .slice pa np pc] 90 (0, 0)) := by rw [hW3]; exact heap_alloc_new _ _
  have T03 := kTrans T2 T3
  have hsz3 := T3.size
  have lg3 := blk_lt g3
  have hQ := queued_any (fun k => k = b ∨ k = B ∨ k = pb ∨ k = W2.heap.size) 91 #[.pointer (some ⟨W2.heap.size, 0, none⟩)] enters_pushes (insL lb l) W2.heap.size (.slice none 0 0) [] W3 (.inl ⟨rfl, _, rfl⟩) T3.size List.Pairwise.nil
    (by have := insL_length lb l; have := Hn.out; simp only [List.length_nil]; omega) (fun k hk => ⟨by omega, by simp [ownR]⟩)
    (fun n hn => byPushes_stops _ n hn W2.heap.size B b o m cap pb np pc pa hpa wd hi lb l W3 Hm.out (Hp.out.below T03 hb) (Nat.lt_of_lt_of_le hb T03.size) hcap (Hmp.out.below T03) Hok.out (by omega) Hn.out (Hpu.out.below T03 hpb) (Nat.lt_of_lt_of_le hpb T03.size) Hpl.out (by omega) g3 (.inl rfl) (.inr (.inl rfl)) (.inr (.inr (.inl rfl))) (.inr (.inr (.inr rfl))) (fun k hk => by omega))
  have HQ := Lib.hid hQ
  clear hQ hW3 g3 cg_0 cg_1 cg_2 cg_3 cg_4
  go_wp2_with fail
  refine HQ.out.mono ?_
  rintro e W4 ⟨v4, rfl, hq4, hg4, _⟩
  have T4 : Below W3.heap.size W3 W4 := (Below.refl _ _).grown hg4 (Nat.le_refl _) (fun k hk => by simp [ownR] at hk)
  obtain ⟨v4a, v4c, rfl⟩ := hq4.form
  have HI4 := Lib.hid (RunI.start (lb := lb) (l := l) Hm.out Hpl.out (by rw [Hn.out]; exact hnm))
  have HQ4 := Lib.hid hq4
  have HF4 := Lib.hid ((HF2.out.below T3).below T4)
  have G4 := Lib.hid (blk_below (blk_below G2.out T3) T4)
  have T04 := kTrans T03 T4
  clear hq4 hg4 HQ HF2 G2 T3 T4 T03 T2 T1
  go_wp2
  go_step3
  go_wp2
  go_loopg [4, 5] 2802 (fun ko v t wr => ∃ (tn : Nat) (F : Nat → Fl) (Q : List Ht), t = .int .i64 tn ∧ tn + ko = 2802 ∧ Hid (QAt 107 wr W2.heap.size v Q) ∧ Hid (FRow wr g m F) ∧ Hid (wr.heap[w.heap.size]? = some (.cells #[.int .i8 wd, .int .i8 hi, .map (some B), .slice (some ⟨b, o, none⟩) m cap, .slice pa np pc] 90 (0, 0))) ∧ Hid (RunI lb l m tn F Q) ∧ Below w.heap.size w wr)
  case atStart => exact ⟨0, fun _ => stay, _, rfl, rfl, HQ4, HF4, G4, HI4, T04⟩
  case round =>
    clear HQ4 HF4 G4 HI4 T04
    obtain ⟨tn, F, Q, rfl, hko, hq, hF, hG, hI, hT⟩ := hrel
    obtain ⟨wo, rfl⟩ : ∃ wo : World, wo = wr := ⟨_, rfl⟩
    obtain ⟨go, rfl⟩ : ∃ go : Nat, go = gk := ⟨_, rfl⟩
    obtain ⟨va, vc, rfl⟩ := hq.out.form
    have htn : tn ≤ 2802 := by omega
    by_cases hQ0 : Q.length = 0
    · obtain rfl : Q = [] := List.length_eq_zero_iff.1 hQ0
      have HF := hF
      have HI := hI
      clear hF hI hq hG hQ0
      go_wp2
      try rw [Exit.noGoto_ret]
      go_ret
      exact ⟨g, F, rfl, HF.out, HI.out.inv.sol, HI.out.falls, Nat.le_of_lt hwg, hT⟩
    · have hlq : 0 < Q.length := by omega
      have ht28 : tn ≤ 2800 := by
        obtain ⟨x, Q', rfl⟩ : ∃ x Q', Q = x :: Q' := by cases Q with | nil => simp at hQ0 | cons x Q' => exact ⟨x, Q', rfl⟩
        obtain ⟨_, h2, h3⟩ := hI.out.fine x (List.mem_cons_self ..)
        have := h2.2.1
        omega
      clear hQ0
      go_wp2
      go_loopg [4] (5 * standing F m + Q.length) (fun ki v wr => ∃ (F : Nat → Fl) (Q : List Ht), 5 * standing F m + Q.length = ki ∧ Hid (QAt 107 wr W2.heap.size v Q) ∧ Hid (FRow wr g m F) ∧ Hid (wr.heap[w.heap.size]? = some (.cells #[.int .i8 wd, .int .i8 hi, .map (some B), .slice (some ⟨b, o, none⟩) m cap, .slice pa np pc] 90 (0, 0))) ∧ Hid (RunI lb l m tn F Q) ∧ Below w.heap.size w wr)
      case atStart => exact ⟨F, Q, rfl, hq, hF, hG, hI, hT⟩
      case round =>
        clear hq hF hG hI hT hlq
        obtain ⟨F, Q, hki, hq, hF, hG, hI, hT⟩ := hrel
        cases Q with
        | nil =>
          obtain ⟨va, vc, rfl⟩ := hq.out.form
          have HI2 := Lib.hid (hI.out.none (u := ((tn + 1 : Nat) : Int)))
          clear hI
          go_wp2
          go_roundg (go - 1)
          case measure => omega
          case rel => exact ⟨tn + 1, F, [], by go_num, by omega, hq, hF, hG, HI2, hT⟩
        | cons x Q' =>
          rcases hq.out with ⟨h, _⟩ | ⟨gq, oq, c, rfl, hbq, h0c, hc63, hr⟩
          · cases h
          · rw [List.length_cons]
            have q0 := hr.cell (j := 0) (i := 0) (by simp) (by omega)
            have q1 := hr.cell (j := 0) (i := 1) (by simp) (by omega)
            have q2 := hr.cell (j := 0) (i := 2) (by simp) (by omega)
            have q3 := hr.cell (j := 0) (i := 3) (by simp) (by omega)
            simp only [htCells, List.getElem_cons_zero, List.getElem?_cons_zero, List.getElem?_cons_succ, Nat.add_zero] at q0 q1 q2 q3
            obtain ⟨hx1, hxf, hxt⟩ := hI.out.fine x (List.mem_cons_self ..)
            have hlc : Q'.length + 1 ≤ c := by obtain ⟨A, C, _, _, h3⟩ := hr; rw [List.length_cons] at h3; omega
            have hlp : (0 : Int) < ((Q'.length + 1 : Nat) : Int) := by omega
            have hrl := hr.lt
            obtain ⟨W5, hW5⟩ : ∃ W5, wr.alloc (.cells #[.int .i64 x.1, .int .i64 x.2.tick, .int .i8 x.2.frm, .int .i64 x.2.who] 107) = W5 := ⟨_, rfl⟩
            have x5 : W5.heap[wr.heap.size]? = some (.cells #[.int .i64 x.1, .int .i64 x.2.tick, .int .i8 x.2.frm, .int .i64 x.2.who] 107 (0, 0)) := by rw [← hW5]; exact heap_alloc_new _ _
            have T5 : Below wr.heap.size wr W5 := by rw [← hW5]; exact kAlloc (Below.refl _ _) _
            have hr5 := hr.of_block (T5.block gq hrl)
            have HR5 := Lib.hid hr5
            have cx0 : W5.cell? ⟨wr.heap.size, 0, none⟩ = some (.int .i64 x.1) := cell_of_row _ _ 0 _ _ _ x5
            have cx1 : W5.cell? ⟨wr.heap.size, 1, none⟩ = some (.int .i64 x.2.tick) := cell_of_row _ _ 1 _ _ _ x5
            have cx2 : W5.cell? ⟨wr.heap.size, 2, none⟩ = some (.int .i8 x.2.frm) := cell_of_row _ _ 2 _ _ _ x5
            have cx3 : W5.cell? ⟨wr.heap.size, 3, none⟩ = some (.int .i64 x.2.who) := cell_of_row _ _ 3 _ _ _ x5
            have lx5 := blk_lt x5
            have HW5 := Lib.hid hW5
            have X5 := Lib.hid x5
            have HT5 := Lib.hid T5
            have HQW := hq
            clear hW5 x5 hr hr5 hq
            go_upto_region 8 with fail
            rw [HW5.out]
            by_cases hlate : (tn : Int) < x.2.tick
            · have HI2 : Hid (RunI lb l m ((tn + 1 : Nat) : Int) F (x :: Q')) := Lib.hid (by have := hI.out.tick hlate; simpa using this)
              have HQ2 := Lib.hid (HQW.out.below HT5.out)
              have HF2' := Lib.hid (hF.out.below HT5.out)
              have HG2 := Lib.hid (blk_below hG.out HT5.out)
              have HB2 := kTrans hT HT5.out
              clear hI HQW hF hG T5
              go_wp2
              go_roundg (go - 1)
              case measure => omega
              case rel => exact ⟨tn + 1, F, x :: Q', by go_num, by omega, HQ2, HF2', HG2, HI2, HB2⟩
            · have hnow : x.2.tick ≤ (tn : Int) := by omega
              have hl1 : (1 : Int) ≤ ((Q'.length + 1 : Nat) : Int) := by omega
              have hlci : ((Q'.length + 1 : Nat) : Int) ≤ (c : Int) := by omega
              clear HQW hlp HW5 q0 q1 q2 q3
              go_upto_region 9 with fail
              go_cut [4] (fun s4 wx => ∃ a c1, s4 = .slice a Q'.length c1 ∧ W5 = wx ∧ Hid (QAt 107 W5 W2.heap.size (.slice a Q'.length c1) Q'))
              case first =>
                go_wp2_with fail
                · rename_i hc1
                  obtain rfl : Q' = [] := List.length_eq_zero_iff.1 (by omega)
                  go_meet
                  exact ⟨_, _, rfl, rfl, Lib.hid (.inl ⟨rfl, _, rfl⟩)⟩
                · have Hq1 := Lib.hid (HR5.out.tail1 hbq (by assumption) h0c hc63)
                  go_meet
                  exact ⟨_, _, rfl, rfl, Hq1⟩
              case rest =>
                obtain ⟨a4, c4, rfl, rfl, hq5⟩ := hcut
                have HF5 := Lib.hid (hF.out.below HT5.out)
                have hgr := hF.out.lt
                have HG5 := Lib.hid (blk_below hG.out HT5.out)
                have T5w := kTrans hT HT5.out
                obtain ⟨f0, f1, f2⟩ := HF5.out.at_ x.1 hx1
                obtain ⟨⟨y0, y1, y2⟩, hz5⟩ := Hst.out.below T5w
                simp only [stay, Nat.zero_add] at y0 y1 y2
                have hg5 := HF5.out.lt
                have hxi : (x.1 : Int) < (m : Int) := by omega
                have hgm : Tryd.prog.eqGuardType Tryd.prog.depth 73 = false := by kernel_rfl
                have he := Fl_eq (F x.1) stay
                clear hF hG hT HR5 hl1 hlci
                by_cases hstay : F x.1 = stay
                · have Hstay := Lib.hid hstay
                  rw [show decide (F x.1 = stay) = true by simpa using hstay] at he
                  simp only [stay] at he
                  clear hstay
                  go_wp2
                  go_quiet (fail)
                  have HF6 : Hid (FRow (W5.drewN nq) g m F) := Lib.hid (HF5.out.of_block rfl (Nat.le_refl _))
                  have G6 : Hid ((W5.drewN nq).heap[w.heap.size]? = _) := HG5
                  have X6 : Hid ((W5.drewN nq).heap[wr.heap.size]? = _) := X5
                  have q6 : Hid (QAt 107 (W5.drewN nq) W2.heap.size (.slice a4 Q'.length c4) Q') := hq5
                  have T6 := kDrewN T5w nq
                  have hs6 : wr.heap.size < (W5.drewN nq).heap.size := lx5
                  clear HF5 HG5 X5 hq5 T5w cx0 cx1 cx2 cx3 y0 y1 y2 f0 f1 f2 he hgm lx5 hg5 hz5 HT5 T5
                  generalize W5.drewN nq = W6 at *
                  obtain ⟨f0, f1, f2⟩ := HF6.out.at_ x.1 hx1
                  have z0 := HF6.out.fz (x.1 * 3)
                  have z1 := HF6.out.fz (x.1 * 3 + 1)
                  have z2 := HF6.out.fz (x.1 * 3 + 2)
                  have cx0 : W6.cell? ⟨wr.heap.size, 0, none⟩ = some (.int .i64 x.1) := cell_of_row _ _ 0 _ _ _ X6.out
                  have cx1 : W6.cell? ⟨wr.heap.size, 1, none⟩ = some (.int .i64 x.2.tick) := cell_of_row _ _ 1 _ _ _ X6.out
                  have cx2 : W6.cell? ⟨wr.heap.size, 2, none⟩ = some (.int .i8 x.2.frm) := cell_of_row _ _ 2 _ _ _ X6.out
                  have cx3 : W6.cell? ⟨wr.heap.size, 3, none⟩ = some (.int .i64 x.2.who) := cell_of_row _ _ 3 _ _ _ X6.out
                  obtain ⟨W7, hW7⟩ : ∃ W7, ((W6.setCell ⟨g, x.1 * 3, none⟩ (.int .i64 x.2.tick)).setCell ⟨g, x.1 * 3 + 1, none⟩ (.int .i8 x.2.frm)).setCell ⟨g, x.1 * 3 + 2, none⟩ (.int .i64 x.2.who) = W7 := ⟨_, rfl⟩
                  have e7 : ∀ k, k ≠ g → W7.heap[k]? = W6.heap[k]? := fun k hk => by rw [← hW7, Below.heap_setCell _ _ _ _ hk, Below.heap_setCell _ _ _ _ hk, Below.heap_setCell _ _ _ _ hk]
                  have HF7 : Hid (FRow W7 g m (set_ F x.1 x.2)) := Lib.hid (by rw [← hW7]; exact HF6.out.put hx1)
                  have G7 := Lib.hid ((e7 _ (by omega)).trans G6.out)
                  have X7 := Lib.hid ((e7 _ (by omega)).trans X6.out)
                  have q7 := Lib.hid (q6.out.of_from (fun k hk => e7 k (by omega)))
                  have T7 : Below w.heap.size w W7 := by rw [← hW7]; exact kSet (kSet (kSet T6 (Nat.le_of_lt hwg) _) (Nat.le_of_lt hwg) _) (Nat.le_of_lt hwg) _
                  have hs7 : wr.heap.size < W7.heap.size := blk_lt X7.out
                  have HW7 := Lib.hid hW7
                  clear e7 hW7 HF6 G6 X6 q6 T6
                  go_upto_region 12 with fail
                  rw [HW7.out]
                  clear f0 f1 f2 z0 z1 z2 cx0 cx1 cx2 cx3 HW7 hs6
                  obtain ⟨HIn, hsn⟩ := hI.out.new (k := x.1) (f := x.2) Hm.out hmm Hok.out Hpl.out (by rw [Hstay.out]; decide)
                  have HIN := Lib.hid HIn
                  have HP := Lib.hid ((List.pairwise_cons.1 hI.out.inv.d).2)
                  have hlen := hI.out.len
                  rw [List.length_cons] at hlen hki
                  clear hI HIn
                  have cg_0 : W7.cell? ⟨w.heap.size, 0, none⟩ = some (.int .i8 wd) := cell_of_row _ _ 0 _ _ _ G7.out
                  have cg_1 : W7.cell? ⟨w.heap.size, 1, none⟩ = some (.int .i8 hi) := cell_of_row _ _ 1 _ _ _ G7.out
                  have cg_2 : W7.cell? ⟨w.heap.size, 2, none⟩ = some (.map (some B)) := cell_of_row _ _ 2 _ _ _ G7.out
                  have cg_3 : W7.cell? ⟨w.heap.size, 3, none⟩ = some (.slice (some ⟨b, o, none⟩) m cap) := cell_of_row _ _ 3 _ _ _ G7.out
                  have cg_4 : W7.cell? ⟨w.heap.size, 4, none⟩ = some (.slice pa np pc) := cell_of_row _ _ 4 _ _ _ G7.out
                  have cx0 : W7.cell? ⟨wr.heap.size, 0, none⟩ = some (.int .i64 x.1) := cell_of_row _ _ 0 _ _ _ X7.out
                  have cx1 : W7.cell? ⟨wr.heap.size, 1, none⟩ = some (.int .i64 x.2.tick) := cell_of_row _ _ 1 _ _ _ X7.out
                  have cx2 : W7.cell? ⟨wr.heap.size, 2, none⟩ = some (.int .i8 x.2.frm) := cell_of_row _ _ 2 _ _ _ X7.out
                  have cx3 : W7.cell? ⟨wr.heap.size, 3, none⟩ = some (.int .i64 x.2.who) := cell_of_row _ _ 3 _ _ _ X7.out
                  have lg7 := blk_lt G7.out
                  go_wp2_with fail
                  refine (hitsBy_any wd hi x.1 B _ _ x.2 W7 ⟨_, _, _, rfl⟩ ⟨_, _, _, rfl⟩).mono ?_
                  rintro e W8 ⟨rfl, hW8⟩
                  have T8 : Below W7.heap.size W7 W8 := by rw [hW8]; exact kAlloc (kAlloc (kAlloc (Below.refl _ _) _) _) _
                  have g8 : W8.heap[W7.heap.size]? = some (.cells #[.int .i8 wd, .int .i8 hi, .map (some B), .slice (some ⟨b, o, none⟩) m cap, .slice pa np pc] 90 (0, 0)) := by rw [hW8]; exact blk_below (heap_alloc_new _ _) (kAlloc (kAlloc (Below.refl _ _) _) _)
                  have i8 : W8.heap[W7.heap.size + 1]? = some (.cells #[.int .i64 x.1] 2 (0, 0)) := by rw [hW8]; exact blk_below (heap_two _ _ _) (kAlloc (Below.refl _ _) _)
                  have f8 : W8.heap[W7.heap.size + 1 + 1]? = some (.cells #[.int .i64 x.2.tick, .int .i8 x.2.frm, .int .i64 x.2.who] 73 (0, 0)) := by
                    rw [hW8]
                    have h := heap_two (W7.alloc (.cells #[.int .i8 wd, .int .i8 hi, .map (some B), .slice (some ⟨b, o, none⟩) m cap, .slice pa np pc] 90 (0, 0))) (.cells #[.int .i64 x.1] 2 (0, 0)) (.cells #[.int .i64 x.2.tick, .int .i8 x.2.frm, .int .i64 x.2.who] 73 (0, 0))
                    simpa only [World.size_alloc] using h
                  have hs8 : W7.heap.size + 1 + 1 + 1 = W8.heap.size := by rw [hW8]; simp
                  have T08 := kTrans T7 T8
                  have hown : ∀ k, ownR (.slice a4 Q'.length c4) = some k → W2.heap.size ≤ k ∧ k < W7.heap.size := by
                    intro k hk
                    rcases q7.out.own with h | ⟨gg, cs, h, h1, h2⟩
                    · rw [h] at hk; cases hk
                    · rw [h] at hk; cases hk; exact ⟨h1, blk_lt h2⟩
                  have hQ := queued_any (fun k => k = b ∨ k = B ∨ k = W7.heap.size + 1 + 1 ∨ k = W7.heap.size ∨ k = W7.heap.size + 1) 77 #[.pointer (some ⟨W7.heap.size + 1 + 1, 0, none⟩), .pointer (some ⟨W7.heap.size, 0, none⟩), .pointer (some ⟨W7.heap.size + 1, 0, none⟩)] enters_fall (outsL lb x.1 x.2) W2.heap.size (.slice a4 Q'.length c4) Q' W8 (q7.out.below T8) (by omega) HP.out
                    (by have := outsL_length lb x.1 x.2; have := standing_le F m; omega)
                    (fun k hk => ⟨by omega, fun e => by have := hown k e; omega⟩)
                    (fun n hn => byFall_stops _ n hn W7.heap.size (W7.heap.size + 1) (W7.heap.size + 1 + 1) B b o m cap pa np pc wd hi lb x.1 x.2 W8 Hm.out (Hp.out.below T08 hb) (by omega) hcap (Hmp.out.below T08) Hok.out (by omega) hx1 hxf.1 (by have := hxf.2.1; omega) ⟨hxf.2.2.1, hxf.2.2.2.1⟩ g8 f8 i8 (.inl rfl) (.inr (.inl rfl)) (.inr (.inr (.inl rfl))) (.inr (.inr (.inr (.inl rfl)))) (.inr (.inr (.inr (.inr rfl)))) (fun k hk => by omega))
                  have HQ := Lib.hid hQ
                  have Hown := Lib.hid hown
                  have HF8 := Lib.hid (HF7.out.below T8)
                  have G8 := Lib.hid (blk_below G7.out T8)
                  have Hs8 := Lib.hid hs8
                  clear hQ hW8 g8 i8 f8 cg_0 cg_1 cg_2 cg_3 cg_4 cx0 cx1 cx2 cx3 hown hs8 HF7 G7 X7 q7
                  go_wp2_with fail
                  refine HQ.out.mono ?_
                  rintro e W9 ⟨v9, rfl, hq9, hg9, _⟩
                  have HG9 := Lib.hid hg9
                  have HQ9 := Lib.hid hq9
                  have HF9 : Hid (FRow W9 g m (set_ F x.1 x.2)) := Lib.hid (HF8.out.of_block (hg9.block g HF8.out.lt (fun e => by have := Hown.out g e.symm; omega)) hg9.size)
                  have H9 := Lib.hid ((hg9.block w.heap.size (blk_lt G8.out) (fun e => by have := Hown.out _ e.symm; omega)).trans G8.out)
                  have T9 : Below w.heap.size w W9 := T08.grown hg9 T08.size (fun k hk => by have := Hown.out k hk; omega)
                  have hil := inss_length (outsL lb x.1 x.2) Q'
                  have hol := outsL_length lb x.1 x.2
                  clear hq9 hg9 HG9 HF8 G8 HQ Hown
                  go_wp2
                  go_roundg (5 * standing (set_ F x.1 x.2) m + (inss Q' (outsL lb x.1 x.2)).length)
                  case measure => omega
                  case rel => exact ⟨set_ F x.1 x.2, inss Q' (outsL lb x.1 x.2), rfl, HQ9, HF9, H9, HIN, T9⟩
                · have hF0 : 0 ≤ (F x.1).tick := by
                    by_cases h : (F x.1).tick < 0
                    · exact absurd ((hI.out.inv.a x.1 (show x.1 < lb.length by rw [Hm.out]; exact hx1)).1 h) hstay
                    · omega
                  have HI2 := Lib.hid (hI.out.old Hm.out hF0)
                  rw [show decide (F x.1 = stay) = false by simpa using hstay] at he
                  simp only [stay] at he
                  clear hstay hI
                  go_wp2
                  go_quiet (fail)
                  go_wp2
                  go_roundg (gk - 1)
                  case measure => simp only [List.length_cons] at hki; omega
                  case rel => exact ⟨F, Q', by simp only [List.length_cons] at hki; omega, hq5, Lib.hid (HF5.out.of_block rfl (Nat.le_refl _)), HG5, HI2, kDrewN T5w _⟩
end Go.Proofs.YtflkfkbdgekpkaaDoor
