/- Several texts in one: RnM, Gm, Rw, Rm, Bt. -/
import Derived.Test.YtflkfkbdgekpkaaDoorG3
import Derived.Test.YtflkfkbdgekpkaaDoorRe
import Derived.Test.YtflkfkbdgekpkaaDoorG7
import Derived.Test.YtflkfkbdgekpkaaDoorG4
/- Runs: the mathematics. What falls is the one solution of 'each fall is the best of the hits that reach the piece'; the model's search for the earliest and the program's queue both end in it. -/
namespace Go.Proofs.YtflkfkbdgekpkaaDoor
set_option linter.unusedVariables false

def stay : Fl := ⟨-1, 0, -1⟩
def lessF (a b : Fl) : Prop := a.tick < b.tick ∨ (a.tick = b.tick ∧ (a.frm < b.frm ∨ (a.frm = b.frm ∧ a.who < b.who)))
instance (a b : Fl) : Decidable (lessF a b) := by unfold lessF; infer_instance
def leF (a b : Fl) : Prop := ¬ lessF b a
theorem leF_refl (a : Fl) : leF a a := by unfold leF lessF; omega
theorem leF_trans {a b c : Fl} (h : leF a b) (g : leF b c) : leF a c := by unfold leF lessF at *; omega
theorem leF_antisymm {a b : Fl} (h : leF a b) (g : leF b a) : a = b := by
  obtain ⟨a1, a2, a3⟩ := a; obtain ⟨b1, b2, b3⟩ := b
  unfold leF lessF at *
  simp only at *
  obtain rfl : a1 = b1 := by omega
  obtain rfl : a2 = b2 := by omega
  obtain rfl : a3 = b3 := by omega
  rfl
theorem leF_of_tick {a b : Fl} (h : a.tick < b.tick) : leF a b := by unfold leF lessF; omega
theorem leF_tick {a b : Fl} (h : leF a b) : a.tick ≤ b.tick := by unfold leF lessF at h; omega
theorem leF_of_less {a b : Fl} (h : lessF a b) : leF a b := by unfold leF lessF at *; omega

/-- hits that pushes make, and hits that a fall makes -/
structure Gm where
  n : Nat
  ins : List (Nat × Fl)
  outs : Nat → Fl → List (Nat × Fl)
structure Gm.ok (G : Gm) : Prop where
  hin : ∀ x ∈ G.ins, x.1 < G.n ∧ 0 ≤ x.2.tick
  hout : ∀ i f, i < G.n → 0 ≤ f.tick → ∀ x ∈ G.outs i f, x.1 < G.n ∧ f.tick < x.2.tick
/-- the piece k may fall so -/
def Cand (G : Gm) (F : Nat → Fl) (k : Nat) (g : Fl) : Prop := (k, g) ∈ G.ins ∨ ∃ i, i < G.n ∧ 0 ≤ (F i).tick ∧ (k, g) ∈ G.outs i (F i)
theorem Cand.ok {G : Gm} {F : Nat → Fl} {k : Nat} {g : Fl} (o : G.ok) (h : Cand G F k g) : k < G.n ∧ 0 ≤ g.tick := by
  rcases h with h | ⟨i, hi, h0, h⟩
  · exact o.hin _ h
  · have := o.hout i _ hi h0 _ h
    simp only at this
    exact ⟨this.1, by omega⟩
/-- the best of a set, or none -/
def Best (S : Fl → Prop) (c : Fl) : Prop := (c.tick < 0 → c = stay ∧ ∀ g, ¬ S g) ∧ (0 ≤ c.tick → S c ∧ ∀ g, S g → leF c g)
def upd (c g : Fl) : Fl := if c.tick < 0 ∨ lessF g c then g else c
theorem best_none : Best (fun _ => False) stay := ⟨fun _ => ⟨rfl, fun _ h => h⟩, fun h => by simp [stay] at h⟩
theorem best_congr {S S' : Fl → Prop} {c : Fl} (e : ∀ g, S g ↔ S' g) (h : Best S c) : Best S' c :=
  ⟨fun h1 => ⟨(h.1 h1).1, fun g hg => (h.1 h1).2 g ((e g).2 hg)⟩, fun h1 => ⟨(e c).1 (h.2 h1).1, fun g hg => (h.2 h1).2 g ((e g).2 hg)⟩⟩
theorem best_add {S : Fl → Prop} {c g : Fl} (h0 : 0 ≤ g.tick) (h : Best S c) : Best (fun x => S x ∨ x = g) (upd c g) := by
  unfold upd
  split
  · rename_i hc
    refine ⟨fun h1 => absurd h0 (by omega), fun _ => ⟨.inr rfl, fun x hx => ?_⟩⟩
    rcases hx with hx | rfl
    · rcases hc with hc | hc
      · exact absurd hx ((h.1 hc).2 x)
      · by_cases h1 : c.tick < 0
        · exact absurd hx ((h.1 h1).2 x)
        · exact leF_trans (leF_of_less hc) ((h.2 (by omega)).2 x hx)
    · exact leF_refl _
  · rename_i hc
    have h1 : 0 ≤ c.tick := by
      by_cases h2 : c.tick < 0
      · exact absurd (.inl h2) hc
      · omega
    refine ⟨fun h2 => absurd h1 (by omega), fun _ => ⟨.inl (h.2 h1).1, fun x hx => ?_⟩⟩
    rcases hx with hx | rfl
    · exact (h.2 h1).2 x hx
    · exact fun h2 => hc (.inr h2)
/-- a set that grows by what is no better -/
theorem best_more {S S' : Fl → Prop} {c : Fl} (h : Best S c) (h0 : 0 ≤ c.tick) (e : ∀ g, S g → S' g) (e' : ∀ g, S' g → S g ∨ leF c g) : Best S' c :=
  ⟨fun h1 => absurd h0 (by omega), fun _ => ⟨e c (h.2 h0).1, fun g hg => by
    rcases e' g hg with h1 | h1
    · exact (h.2 h0).2 g h1
    · exact h1⟩⟩
def Sol (G : Gm) (F : Nat → Fl) : Prop := ∀ k, k < G.n → Best (Cand G F k) (F k)
theorem sol_le {G : Gm} (o : G.ok) {F H : Nat → Fl} (hF : Sol G F) (hH : Sol G H) : ∀ (t : Nat) (k : Nat), k < G.n → 0 ≤ (F k).tick → (F k).tick ≤ t → H k = F k := by
  have step : ∀ {F H : Nat → Fl}, Sol G F → Sol G H → ∀ t : Nat, (∀ k, k < G.n → 0 ≤ (F k).tick → (F k).tick < t → H k = F k) → ∀ k, k < G.n → 0 ≤ (F k).tick → (F k).tick ≤ t → Cand G H k (F k) := by
    intro F H hF hH t ih k hk h0 ht
    rcases ((hF k hk).2 h0).1 with h | ⟨i, hi, hi0, h⟩
    · exact .inl h
    · have h1 := (o.hout i _ hi hi0 _ h).2
      simp only at h1
      have e := ih i hi hi0 (by omega)
      exact .inr ⟨i, hi, by rw [e]; exact hi0, by rw [e]; exact h⟩
  have both : ∀ t : Nat, (∀ k, k < G.n → 0 ≤ (F k).tick → (F k).tick < t → H k = F k) ∧ (∀ k, k < G.n → 0 ≤ (H k).tick → (H k).tick < t → F k = H k) := by
    intro t
    induction t with
    | zero => exact ⟨fun k _ h0 h1 => absurd h0 (by omega), fun k _ h0 h1 => absurd h0 (by omega)⟩
    | succ t ih =>
      have key : ∀ {F H : Nat → Fl}, Sol G F → Sol G H → (∀ k, k < G.n → 0 ≤ (F k).tick → (F k).tick < t → H k = F k) → (∀ k, k < G.n → 0 ≤ (H k).tick → (H k).tick < t → F k = H k) → ∀ k, k < G.n → 0 ≤ (F k).tick → (F k).tick < (t + 1 : Nat) → H k = F k := by
        intro F H hF hH i1 i2 k hk h0 ht
        have hc := step hF hH t i1 k hk h0 (by omega)
        by_cases hn : (H k).tick < 0
        · exact absurd hc (((hH k hk).1 hn).2 _)
        · have hle := ((hH k hk).2 (by omega)).2 _ hc
          have := leF_tick hle
          have hc2 := step hH hF t i2 k hk (by omega) (by omega)
          exact leF_antisymm hle (((hF k hk).2 h0).2 _ hc2)
      exact ⟨key hF hH ih.1 ih.2, key hH hF ih.2 ih.1⟩
  intro t k hk h0 ht
  exact (both (t + 1)).1 k hk h0 (by push_cast; omega)
theorem sol_unique {G : Gm} (o : G.ok) {F H : Nat → Fl} (hF : Sol G F) (hH : Sol G H) : ∀ k, k < G.n → F k = H k := by
  intro k hk
  by_cases h : (F k).tick < 0
  · by_cases h2 : (H k).tick < 0
    · rw [((hF k hk).1 h).1, ((hH k hk).1 h2).1]
    · exact sol_le o hH hF (H k).tick.toNat k hk (by omega) (by omega)
  · exact (sol_le o hF hH (F k).tick.toNat k hk (by omega) (by omega)).symm

/-! ### the model's search -/
def set_ {α : Type} (F : Nat → α) (k : Nat) (v : α) : Nat → α := fun i => if i = k then v else F i
theorem set_same {α : Type} (F : Nat → α) (k : Nat) (v : α) : set_ F k v k = v := by simp [set_]
theorem set_ne {α : Type} (F : Nat → α) {i k : Nat} (v : α) (h : i ≠ k) : set_ F k v i = F i := by simp [set_, h]
structure InvM (G : Gm) (dn : Nat → Bool) (F N : Nat → Fl) : Prop where
  a1 : ∀ k, k < G.n → dn k = true → F k = N k ∧ 0 ≤ (N k).tick
  a2 : ∀ k, k < G.n → dn k = false → F k = stay
  b : ∀ k, k < G.n → Best (Cand G F k) (N k)
  d : ∀ j k, j < G.n → k < G.n → dn j = true → dn k = false → 0 ≤ (N k).tick → (N j).tick ≤ (N k).tick
def relax (dn : Nat → Bool) (N : Nat → Fl) (x : Nat × Fl) : Nat → Fl := if dn x.1 = true then N else set_ N x.1 (upd (N x.1) x.2)
def relaxs (dn : Nat → Bool) (N : Nat → Fl) (L : List (Nat × Fl)) : Nat → Fl := L.foldl (relax dn) N
theorem relaxs_done {dn : Nat → Bool} {k : Nat} (h : dn k = true) : ∀ (L : List (Nat × Fl)) (N : Nat → Fl), relaxs dn N L k = N k
  | [], _ => rfl
  | x :: L, N => by
    show relaxs dn (relax dn N x) L k = N k
    rw [relaxs_done h L]
    unfold relax
    split
    · rfl
    · rename_i h1
      exact set_ne _ _ (fun e => h1 (by rw [← e]; exact h))
theorem relaxs_best {dn : Nat → Bool} {k : Nat} (h : dn k = false) : ∀ (L : List (Nat × Fl)) (N : Nat → Fl) (S : Fl → Prop), (∀ x ∈ L, 0 ≤ x.2.tick) → Best S (N k) → Best (fun g => S g ∨ (k, g) ∈ L) (relaxs dn N L k)
  | [], N, S, _, hb => best_congr (fun g => by simp) hb
  | x :: L, N, S, hp, hb => by
    show Best _ (relaxs dn (relax dn N x) L k)
    by_cases e : x.1 = k
    · have hb2 : Best (fun g => S g ∨ g = x.2) (relax dn N x k) := by
        unfold relax
        rw [e, h, if_neg (by simp), set_same]
        exact best_add (hp x (List.mem_cons_self ..)) hb
      refine best_congr (fun g => ?_) (relaxs_best h L (relax dn N x) _ (fun y hy => hp y (List.mem_cons_of_mem _ hy)) hb2)
      rw [List.mem_cons]
      constructor
      · rintro ((h1 | h1) | h1)
        · exact .inl h1
        · exact .inr (.inl (by rw [← e, h1]))
        · exact .inr (.inr h1)
      · rintro (h1 | h1 | h1)
        · exact .inl (.inl h1)
        · exact .inl (.inr (by rw [← h1]))
        · exact .inr h1
    · have hb2 : Best S (relax dn N x k) := by
        unfold relax
        split
        · exact hb
        · rw [set_ne _ _ (Ne.symm e)]; exact hb
      refine best_congr (fun g => ?_) (relaxs_best h L (relax dn N x) _ (fun y hy => hp y (List.mem_cons_of_mem _ hy)) hb2)
      rw [List.mem_cons]
      constructor
      · rintro (h1 | h1)
        · exact .inl h1
        · exact .inr (.inr h1)
      · rintro (h1 | h1 | h1)
        · exact .inl h1
        · exact absurd (by rw [← h1]) e
        · exact .inr h1
theorem cand_set {G : Gm} {F : Nat → Fl} {a : Nat} {f : Fl} (ha : a < G.n) (h0 : (F a).tick < 0) (hf : 0 ≤ f.tick) (k : Nat) (g : Fl) : Cand G (set_ F a f) k g ↔ (Cand G F k g ∨ (k, g) ∈ G.outs a f) := by
  constructor
  · rintro (h | ⟨i, hi, hi0, h⟩)
    · exact .inl (.inl h)
    · by_cases e : i = a
      · subst e
        rw [set_same] at h
        exact .inr h
      · rw [set_ne _ _ e] at hi0 h
        exact .inl (.inr ⟨i, hi, hi0, h⟩)
  · rintro ((h | ⟨i, hi, hi0, h⟩) | h)
    · exact .inl h
    · have e : i ≠ a := by intro e; rw [e] at hi0; omega
      exact .inr ⟨i, hi, by rw [set_ne _ _ e]; exact hi0, by rw [set_ne _ _ e]; exact h⟩
    · exact .inr ⟨a, ha, by rw [set_same]; exact hf, by rw [set_same]; exact h⟩
/-- one round of the search -/
theorem InvM.step {G : Gm} (o : G.ok) {dn : Nat → Bool} {F N : Nat → Fl} (I : InvM G dn F N) {a : Nat} (ha : a < G.n) (hd : dn a = false) (h0 : 0 ≤ (N a).tick)
    (hmin : ∀ k, k < G.n → dn k = false → 0 ≤ (N k).tick → (N a).tick ≤ (N k).tick) :
    InvM G (set_ dn a true) (set_ F a (N a)) (relaxs (set_ dn a true) N (G.outs a (N a))) := by
  have hFa : (F a).tick < 0 := by rw [I.a2 a ha hd]; simp [stay]
  have hcs := cand_set ha hFa h0
  have hlate : ∀ x ∈ G.outs a (N a), (N a).tick < x.2.tick := fun x hx => (o.hout a _ ha h0 x hx).2
  have hNa : relaxs (set_ dn a true) N (G.outs a (N a)) a = N a := relaxs_done (set_same _ _ _) _ _
  have hold : ∀ k, dn k = true → relaxs (set_ dn a true) N (G.outs a (N a)) k = N k := fun k h => relaxs_done (by unfold set_; split <;> simp [h]) _ _
  have hbest : ∀ k, k < G.n → Best (Cand G (set_ F a (N a)) k) (relaxs (set_ dn a true) N (G.outs a (N a)) k) := by
    intro k hk
    by_cases hdk : set_ dn a true k = true
    · rw [relaxs_done hdk]
      have hk2 : 0 ≤ (N k).tick ∧ (N k).tick ≤ (N a).tick := by
        by_cases e : k = a
        · subst e; exact ⟨h0, Int.le_refl _⟩
        · rw [set_ne _ _ e] at hdk
          exact ⟨(I.a1 k hk hdk).2, I.d k a hk ha hdk hd h0⟩
      refine best_more (I.b k hk) hk2.1 (fun g hg => (hcs k g).2 (.inl hg)) (fun g hg => ?_)
      rcases (hcs k g).1 hg with h | h
      · exact .inl h
      · exact .inr (leF_of_tick (by have := hlate _ h; simp only at this; omega))
    · have hdk' : set_ dn a true k = false := by simpa using hdk
      exact best_congr (fun g => (hcs k g).symm) (relaxs_best hdk' _ _ _ (fun x hx => by have := hlate x hx; omega) (I.b k hk))
  refine ⟨fun k hk h => ?_, fun k hk h => ?_, hbest, fun j k hj hk h1 h2 h3 => ?_⟩
  · by_cases e : k = a
    · subst e; rw [hNa, set_same]; exact ⟨rfl, h0⟩
    · rw [set_ne _ _ e] at h ⊢
      rw [hold k h]; exact I.a1 k hk h
  · have e : k ≠ a := by intro e; rw [e, set_same] at h; cases h
    rw [set_ne _ _ e] at h ⊢
    exact I.a2 k hk h
  · have ek : k ≠ a := by intro e; rw [e, set_same] at h2; cases h2
    have h2' := h2
    rw [set_ne _ _ ek] at h2'
    have hja : (relaxs (set_ dn a true) N (G.outs a (N a)) j).tick ≤ (N a).tick := by
      by_cases e : j = a
      · subst e; rw [hNa]; exact Int.le_refl _
      · rw [set_ne _ _ e] at h1
        rw [hold j h1]; exact I.d j a hj ha h1 hd h0
    have hc := ((hbest k hk).2 h3).1
    rcases (hcs k _).1 hc with h | h
    · by_cases hn : (N k).tick < 0
      · exact absurd h (((I.b k hk).1 hn).2 _)
      · have := leF_tick (((I.b k hk).2 (by omega)).2 _ h)
        have := hmin k hk h2' (by omega)
        omega
    · have := hlate _ h
      simp only at this
      omega
theorem InvM.sol {G : Gm} {dn : Nat → Bool} {F N : Nat → Fl} (I : InvM G dn F N) (h : ∀ k, k < G.n → dn k = false → (N k).tick < 0) : Sol G F := by
  intro k hk
  cases hd : dn k with
  | true => rw [(I.a1 k hk hd).1]; exact I.b k hk
  | false =>
    have hb := I.b k hk
    have hn := h k hk hd
    rw [I.a2 k hk hd, ← (hb.1 hn).1]; exact hb
theorem InvM.start {G : Gm} {N : Nat → Fl} (h : ∀ k, k < G.n → Best (fun g => (k, g) ∈ G.ins) (N k)) : InvM G (fun _ => false) (fun _ => stay) N := by
  refine ⟨fun k _ h => by simp at h, fun k _ _ => rfl, fun k hk => best_congr (fun g => ?_) (h k hk), fun j k _ _ h => by simp at h⟩
  constructor
  · exact fun h => .inl h
  · rintro (h | ⟨i, _, h0, _⟩)
    · exact h
    · simp [stay] at h0

/-! ### the program's queue -/
structure InvQ (G : Gm) (F : Nat → Fl) (Q : List (Nat × Fl)) : Prop where
  a : ∀ k, k < G.n → ((F k).tick < 0 → F k = stay) ∧ (0 ≤ (F k).tick → Cand G F k (F k))
  b : ∀ k g, Cand G F k g → (k, g) ∈ Q ∨ (0 ≤ (F k).tick ∧ leF (F k) g)
  c : ∀ x ∈ Q, Cand G F x.1 x.2
  d : Q.Pairwise fun x y => leF x.2 y.2
  e : ∀ j, j < G.n → 0 ≤ (F j).tick → ∀ x ∈ Q, leF (F j) x.2
def insH (Q : List (Nat × Fl)) (h : Nat × Fl) : List (Nat × Fl) := Q.takeWhile (fun y => decide (lessF y.2 h.2)) ++ h :: Q.dropWhile (fun y => decide (lessF y.2 h.2))
theorem insH_mem {Q : List (Nat × Fl)} {h x : Nat × Fl} : x ∈ insH Q h ↔ x ∈ Q ∨ x = h := by
  unfold insH
  have e : ∀ y, y ∈ Q ↔ y ∈ Q.takeWhile (fun y => decide (lessF y.2 h.2)) ∨ y ∈ Q.dropWhile (fun y => decide (lessF y.2 h.2)) := by
    intro y
    rw [← List.mem_append, List.takeWhile_append_dropWhile]
  rw [List.mem_append, List.mem_cons, e]
  constructor
  · rintro (h1 | h1 | h1)
    · exact .inl (.inl h1)
    · exact .inr h1
    · exact .inl (.inr h1)
  · rintro ((h1 | h1) | h1)
    · exact .inl h1
    · exact .inr (.inr h1)
    · exact .inr (.inl h1)
theorem mem_take {α : Type} {f : α → Bool} : ∀ {Q : List α} {x : α}, x ∈ Q.takeWhile f → f x = true
  | [], x, hx => by simp at hx
  | y :: Q, x, hx => by
    rw [List.takeWhile_cons] at hx
    split at hx
    · rcases List.mem_cons.1 hx with rfl | hx
      · assumption
      · exact mem_take hx
    · simp at hx
theorem drop_le {h : Nat × Fl} : ∀ {Q : List (Nat × Fl)}, Q.Pairwise (fun x y => leF x.2 y.2) → ∀ x ∈ Q.dropWhile (fun y => decide (lessF y.2 h.2)), leF h.2 x.2
  | [], _, x, hx => absurd hx (by simp)
  | y :: Q, hp, x, hx => by
    rw [List.pairwise_cons] at hp
    by_cases hy : lessF y.2 h.2
    · rw [List.dropWhile_cons_of_pos (by simpa using hy)] at hx
      exact drop_le hp.2 x hx
    · rw [List.dropWhile_cons_of_neg (by simpa using hy)] at hx
      rcases List.mem_cons.1 hx with rfl | hx
      · exact hy
      · exact leF_trans hy (hp.1 x hx)
theorem insH_sorted {Q : List (Nat × Fl)} {h : Nat × Fl} (hp : Q.Pairwise fun x y => leF x.2 y.2) : (insH Q h).Pairwise fun x y => leF x.2 y.2 := by
  unfold insH
  have e := List.takeWhile_append_dropWhile (p := fun y : Nat × Fl => decide (lessF y.2 h.2)) (l := Q)
  rw [← e, List.pairwise_append] at hp
  have ht : ∀ x ∈ Q.takeWhile (fun y => decide (lessF y.2 h.2)), leF x.2 h.2 := fun x hx => leF_of_less (by simpa using mem_take hx)
  have hd : ∀ x ∈ Q.dropWhile (fun y => decide (lessF y.2 h.2)), leF h.2 x.2 := by
    rw [← List.pairwise_append, e] at hp
    exact drop_le hp
  rw [List.pairwise_append]
  refine ⟨hp.1, List.pairwise_cons.2 ⟨hd, hp.2.1⟩, fun x hx y hy => ?_⟩
  rcases List.mem_cons.1 hy with rfl | hy
  · exact ht x hx
  · exact hp.2.2 x hx y hy
def inss (Q L : List (Nat × Fl)) : List (Nat × Fl) := L.foldl insH Q
theorem inss_mem : ∀ {L Q : List (Nat × Fl)} {x : Nat × Fl}, x ∈ inss Q L ↔ x ∈ Q ∨ x ∈ L
  | [], Q, x => by simp [inss]
  | h :: L, Q, x => by
    show x ∈ inss (insH Q h) L ↔ _
    rw [inss_mem, insH_mem, List.mem_cons, or_assoc]
theorem inss_sorted : ∀ {L Q : List (Nat × Fl)}, Q.Pairwise (fun x y => leF x.2 y.2) → (inss Q L).Pairwise fun x y => leF x.2 y.2
  | [], Q, h => h
  | x :: L, Q, h => inss_sorted (L := L) (insH_sorted (h := x) h)
theorem insH_length (Q : List (Nat × Fl)) (h : Nat × Fl) : (insH Q h).length = Q.length + 1 := by
  unfold insH
  have := congrArg List.length (List.takeWhile_append_dropWhile (p := fun y : Nat × Fl => decide (lessF y.2 h.2)) (l := Q))
  rw [List.length_append] at this
  rw [List.length_append, List.length_cons]; omega
theorem inss_length : ∀ (L Q : List (Nat × Fl)), (inss Q L).length = Q.length + L.length
  | [], Q => rfl
  | x :: L, Q => by
    show (inss (insH Q x) L).length = _
    rw [inss_length L, insH_length, List.length_cons]; omega
theorem InvQ.start {G : Gm} : InvQ G (fun _ => stay) (inss [] G.ins) := by
  have hc : ∀ k g, Cand G (fun _ => stay) k g ↔ (k, g) ∈ G.ins := by
    intro k g
    constructor
    · rintro (h | ⟨i, _, h0, _⟩)
      · exact h
      · simp [stay] at h0
    · exact fun h => .inl h
  refine ⟨fun k _ => ⟨fun _ => rfl, fun h => by simp [stay] at h⟩, fun k g h => .inl (inss_mem.2 (.inr ((hc k g).1 h))), fun x hx => ?_, inss_sorted List.Pairwise.nil, fun j _ h => by simp [stay] at h⟩
  rcases inss_mem.1 hx with h | h
  · simp at h
  · exact (hc _ _).2 h
theorem InvQ.old {G : Gm} {F : Nat → Fl} {x : Nat × Fl} {Q : List (Nat × Fl)} (I : InvQ G F (x :: Q)) (hk : x.1 < G.n) (h : 0 ≤ (F x.1).tick) : InvQ G F Q := by
  refine ⟨I.a, fun k g hc => ?_, fun y hy => I.c y (List.mem_cons_of_mem _ hy), (List.pairwise_cons.1 I.d).2, fun j hj h0 y hy => I.e j hj h0 y (List.mem_cons_of_mem _ hy)⟩
  rcases I.b k g hc with h1 | h1
  · rcases List.mem_cons.1 h1 with h2 | h2
    · subst h2
      exact .inr ⟨h, I.e k hk h _ (List.mem_cons_self ..)⟩
    · exact .inl h2
  · exact .inr h1
theorem InvQ.new {G : Gm} (o : G.ok) {F : Nat → Fl} {k : Nat} {f : Fl} {Q : List (Nat × Fl)} (I : InvQ G F ((k, f) :: Q)) (h : (F k).tick < 0) : InvQ G (set_ F k f) (inss Q (G.outs k f)) := by
  have hcf := I.c (k, f) (List.mem_cons_self ..)
  obtain ⟨hk, h0⟩ := hcf.ok o
  simp only at hk h0
  have hcs := cand_set (F := F) hk h h0
  have hlate : ∀ x ∈ G.outs k f, f.tick < x.2.tick := fun x hx => (o.hout k _ hk h0 x hx).2
  have hQ : ∀ y ∈ Q, leF f y.2 := fun y hy => (List.pairwise_cons.1 I.d).1 y hy
  refine ⟨fun j hj => ?_, fun j g hc => ?_, fun x hx => ?_, inss_sorted (List.pairwise_cons.1 I.d).2, fun j hj h1 x hx => ?_⟩
  · by_cases e : j = k
    · subst e
      rw [set_same]
      exact ⟨fun h1 => absurd h0 (by omega), fun _ => (hcs j f).2 (.inl hcf)⟩
    · rw [set_ne _ _ e]
      exact ⟨(I.a j hj).1, fun h1 => (hcs j _).2 (.inl ((I.a j hj).2 h1))⟩
  · rcases (hcs j g).1 hc with h1 | h1
    · rcases I.b j g h1 with h2 | h2
      · rcases List.mem_cons.1 h2 with h3 | h3
        · injection h3 with e1 e2
          subst e1 e2
          exact .inr (by rw [set_same]; exact ⟨h0, leF_refl _⟩)
        · exact .inl (inss_mem.2 (.inl h3))
      · have e : j ≠ k := by intro e; rw [e] at h2; omega
        exact .inr (by rw [set_ne _ _ e]; exact h2)
    · exact .inl (inss_mem.2 (.inr h1))
  · rcases inss_mem.1 hx with h1 | h1
    · exact (hcs _ _).2 (.inl (I.c x (List.mem_cons_of_mem _ h1)))
    · exact (hcs _ _).2 (.inr h1)
  · by_cases e : j = k
    · subst e
      rw [set_same]
      rcases inss_mem.1 hx with h2 | h2
      · exact hQ x h2
      · exact leF_of_tick (hlate x h2)
    · rw [set_ne _ _ e] at h1 ⊢
      rcases inss_mem.1 hx with h2 | h2
      · exact I.e j hj h1 x (List.mem_cons_of_mem _ h2)
      · exact leF_trans (I.e j hj h1 _ (List.mem_cons_self ..)) (leF_of_tick (hlate x h2))
theorem InvQ.sol {G : Gm} {F : Nat → Fl} (I : InvQ G F []) : Sol G F := by
  intro k hk
  refine ⟨fun h => ⟨(I.a k hk).1 h, fun g hg => ?_⟩, fun h => ⟨(I.a k hk).2 h, fun g hg => ?_⟩⟩
  · rcases I.b k g hg with h1 | h1
    · simp at h1
    · omega
  · rcases I.b k g hg with h1 | h1
    · simp at h1
    · exact h1.2
/-- how many pieces have not fallen -/
def standing (F : Nat → Fl) : Nat → Nat
  | 0 => 0
  | n + 1 => standing F n + if (F n).tick < 0 then 1 else 0
theorem standing_set {F : Nat → Fl} {k : Nat} {f : Fl} (h : (F k).tick < 0) (h0 : 0 ≤ f.tick) : ∀ n, k < n → standing (set_ F k f) n + 1 = standing F n
  | 0, hk => absurd hk (by omega)
  | n + 1, hk => by
    simp only [standing]
    by_cases e : n = k
    · subst e
      have hs : ∀ m, m ≤ n → standing (set_ F n f) m = standing F m := by
        intro m
        induction m with
        | zero => intro _; rfl
        | succ m ih => intro hm; simp only [standing]; rw [ih (by omega), set_ne _ _ (by omega)]
      rw [hs n (Nat.le_refl _), set_same, if_neg (by omega), if_pos h]
    · have := standing_set h h0 n (by omega)
      rw [set_ne _ _ e]; omega
theorem standing_le (F : Nat → Fl) : ∀ n, standing F n ≤ n
  | 0 => Nat.le_refl _
  | n + 1 => by simp only [standing]; have := standing_le F n; split <;> omega
end Go.Proofs.YtflkfkbdgekpkaaDoor

/- Games: the hits that pushes make, and that a fall makes, as lists; what the program and the model are held to. -/
namespace Go.Proofs.YtflkfkbdgekpkaaDoor
open Go.ChangeShapes Go.WideShapes Go.ChangeAt Go.RowKit
set_option linter.unusedVariables false

theorem findFrom_lt (x y : Int) : ∀ (l : List Pc) (j : Int), findFrom x y l j < j + l.length ∨ findFrom x y l j = -1
  | [], _ => .inr rfl
  | p :: l, j => by
    unfold findFrom
    split
    · left; simp; omega
    · rcases findFrom_lt x y l (j + 1) with h | h
      · left; simp; omega
      · exact .inr h
def pc0 : Pc := ⟨0, 0, 0, 0, 0⟩
/-- the hit of a piece in a cell, if one stands there that falls from this side -/
def hitAtL (lb : List Pc) (x y : Int) (f : Fl) : List (Nat × Fl) :=
  if 0 ≤ findFrom x y lb 0 ∧ rxF (lb.getD (findFrom x y lb 0).toNat pc0).kind (lb.getD (findFrom x y lb 0).toNat pc0).turn f.frm = true then [((findFrom x y lb 0).toNat, f)] else []
theorem hitAtL_no {lb : List Pc} {x y : Int} {f : Fl} (h : findFrom x y lb 0 < 0) : hitAtL lb x y f = [] := by
  unfold hitAtL; rw [if_neg (by omega)]
theorem hitAtL_stays {lb : List Pc} {x y : Int} {f : Fl} {i : Nat} {p : Pc} (h : findFrom x y lb 0 = i) (hp : lb[i]? = some p) (g : rxF p.kind p.turn f.frm = false) : hitAtL lb x y f = [] := by
  unfold hitAtL
  rw [h, Int.toNat_natCast, List.getD_eq_getElem?_getD, hp]
  simp [g]
theorem hitAtL_falls {lb : List Pc} {x y : Int} {f : Fl} {i : Nat} {p : Pc} (h : findFrom x y lb 0 = i) (hp : lb[i]? = some p) (g : rxF p.kind p.turn f.frm = true) : hitAtL lb x y f = [(i, f)] := by
  unfold hitAtL
  rw [h, Int.toNat_natCast, List.getD_eq_getElem?_getD, hp]
  simp [g]
theorem hitAtL_mem {lb : List Pc} {x y : Int} {f : Fl} {h : Nat × Fl} (m : h ∈ hitAtL lb x y f) : h.1 < lb.length ∧ h.2 = f := by
  unfold hitAtL at m
  split at m
  · rename_i hc
    obtain rfl := List.mem_singleton.1 m
    refine ⟨?_, rfl⟩
    rcases findFrom_lt x y lb 0 with g | g
    · simp only; omega
    · omega
  · simp at m
def insL (lb : List Pc) : List Pu → List (Nat × Fl)
  | [] => []
  | p :: l => hitAtL lb p.x p.y ⟨p.tick, p.side, -1⟩ ++ insL lb l
theorem insL_snoc (lb : List Pc) (p : Pu) : ∀ l : List Pu, insL lb (l ++ [p]) = insL lb l ++ hitAtL lb p.x p.y ⟨p.tick, p.side, -1⟩
  | [] => by simp [insL]
  | q :: l => by simp [insL, insL_snoc lb p l]
/-- what a piece that falls so hits on a side -/
def outS (lb : List Pc) (p : Pc) (i : Int) (f : Fl) (s : Int) : List (Nat × Fl) :=
  if rxH p.kind p.turn f.frm s = true then hitAtL lb (stepX p.x s) (stepY p.y s) ⟨f.tick + p.delay, (s + 2) % 4, i⟩ else []
/-- on the first k sides -/
def outU (lb : List Pc) (p : Pc) (i : Int) (f : Fl) : Nat → List (Nat × Fl)
  | 0 => []
  | k + 1 => outU lb p i f k ++ outS lb p i f k
def outsL (lb : List Pc) (i : Nat) (f : Fl) : List (Nat × Fl) := outU lb (lb.getD i pc0) i f 4
def gameL (lb : List Pc) (l : List Pu) : Gm := ⟨lb.length, insL lb l, outsL lb⟩
theorem insL_mem {lb : List Pc} {h : Nat × Fl} : ∀ {l : List Pu}, h ∈ insL lb l → h.1 < lb.length ∧ ∃ p ∈ l, h.2 = ⟨p.tick, p.side, -1⟩
  | [], m => by simp [insL] at m
  | p :: l, m => by
    rcases List.mem_append.1 (show h ∈ hitAtL lb p.x p.y ⟨p.tick, p.side, -1⟩ ++ insL lb l from m) with g | g
    · have := hitAtL_mem g
      exact ⟨this.1, p, List.mem_cons_self .., this.2⟩
    · obtain ⟨h1, q, hq, h2⟩ := insL_mem g
      exact ⟨h1, q, List.mem_cons_of_mem _ hq, h2⟩
theorem outS_mem {lb : List Pc} {p : Pc} {i : Int} {f : Fl} {s : Int} {h : Nat × Fl} (m : h ∈ outS lb p i f s) : h.1 < lb.length ∧ h.2 = ⟨f.tick + p.delay, (s + 2) % 4, i⟩ := by
  unfold outS at m
  split at m
  · exact hitAtL_mem m
  · simp at m
theorem outU_mem {lb : List Pc} {p : Pc} {i : Int} {f : Fl} {h : Nat × Fl} : ∀ {k : Nat}, h ∈ outU lb p i f k → h.1 < lb.length ∧ ∃ s : Nat, s < k ∧ h.2 = ⟨f.tick + p.delay, (s + 2) % 4, i⟩
  | 0, m => by simp [outU] at m
  | k + 1, m => by
    rcases List.mem_append.1 (show h ∈ outU lb p i f k ++ outS lb p i f k from m) with g | g
    · obtain ⟨h1, s, hs, h2⟩ := outU_mem g
      exact ⟨h1, s, by omega, h2⟩
    · have := outS_mem g
      exact ⟨this.1, k, by omega, this.2⟩
theorem outsL_mem {lb : List Pc} {i : Nat} {f : Fl} {h : Nat × Fl} (m : h ∈ outsL lb i f) : h.1 < lb.length ∧ ∃ s : Nat, s < 4 ∧ h.2 = ⟨f.tick + (lb.getD i pc0).delay, (s + 2) % 4, i⟩ := outU_mem m
theorem outS_length (lb : List Pc) (p : Pc) (i : Int) (f : Fl) (s : Int) : (outS lb p i f s).length ≤ 1 := by
  unfold outS hitAtL
  split
  · split <;> simp
  · simp
theorem outU_length (lb : List Pc) (p : Pc) (i : Int) (f : Fl) : ∀ k, (outU lb p i f k).length ≤ k
  | 0 => Nat.le_refl _
  | k + 1 => by
    have h1 := outU_length lb p i f k
    have h2 := outS_length lb p i f k
    show (outU lb p i f k ++ outS lb p i f k).length ≤ k + 1
    rw [List.length_append]; omega
theorem outsL_length (lb : List Pc) (i : Nat) (f : Fl) : (outsL lb i f).length ≤ 4 := outU_length _ _ _ _ 4
theorem insL_length (lb : List Pc) : ∀ l : List Pu, (insL lb l).length ≤ l.length
  | [] => Nat.le_refl _
  | p :: l => by
    have h1 := insL_length lb l
    have h2 : (hitAtL lb p.x p.y ⟨p.tick, p.side, -1⟩).length ≤ 1 := by unfold hitAtL; split <;> simp
    show (hitAtL lb p.x p.y ⟨p.tick, p.side, -1⟩ ++ insL lb l).length ≤ (p :: l).length
    rw [List.length_append, List.length_cons]; omega
/-- a fall as it may be -/
def Fl.fine (f : Fl) (n : Nat) (m : Int) : Prop := 0 ≤ f.tick ∧ f.tick ≤ m ∧ 0 ≤ f.frm ∧ f.frm ≤ 3 ∧ -1 ≤ f.who ∧ f.who < n
theorem plains_all : ∀ {l : List Pu}, plains l = true → ∀ p ∈ l, p.plain = true
  | q :: l, h, p, hp => by
    simp only [plains, Bool.and_eq_true] at h
    rcases List.mem_cons.1 hp with rfl | hp
    · exact h.1
    · exact plains_all h.2 p hp
theorem pushesOk_plain {lb : List Pc} {l : List Pu} (h : pushesOk lb l = true) : ∀ p ∈ l, p.plain = true := by
  unfold pushesOk at h
  simp only [Bool.and_eq_true] at h
  exact plains_all h.1.2
theorem pushesOk_len {lb : List Pc} {l : List Pu} (h : pushesOk lb l = true) : l.length ≤ 20 := by
  unfold pushesOk at h
  simp only [Bool.and_eq_true] at h
  exact of_decide_eq_true h.1.1
theorem insL_fine {lb : List Pc} {l : List Pu} (h : ∀ p ∈ l, p.plain = true) (hn : 0 < lb.length ∨ True) : ∀ x ∈ insL lb l, x.1 < lb.length ∧ x.2.fine lb.length 1000 := by
  intro x hx
  obtain ⟨h1, p, hp, h2⟩ := insL_mem hx
  have := of_decide_eq_true (h p hp)
  rw [h2]
  exact ⟨h1, by unfold Fl.fine; simp only; omega⟩
theorem outsL_fine {lb : List Pc} (hok : ∀ q ∈ lb, q.ok = true) {i : Nat} {f : Fl} {m : Int} (hi : i < lb.length) (hf : f.fine lb.length m) : ∀ x ∈ outsL lb i f, x.1 < lb.length ∧ x.2.fine lb.length (m + 9) ∧ f.tick < x.2.tick := by
  intro x hx
  obtain ⟨h1, s, hs, h2⟩ := outsL_mem hx
  have hp : lb.getD i pc0 ∈ lb := by
    rw [List.getD_eq_getElem?_getD, List.getElem?_eq_getElem hi]; exact List.getElem_mem hi
  have ho := of_decide_eq_true (hok _ hp)
  rw [h2]
  unfold Fl.fine at *
  refine ⟨h1, ?_, ?_⟩ <;> (simp only; omega)
theorem gameL_ok {lb : List Pc} {l : List Pu} (hok : ∀ q ∈ lb, q.ok = true) (h : ∀ p ∈ l, p.plain = true) : (gameL lb l).ok := by
  refine ⟨fun x hx => ?_, fun i f hi hf x hx => ?_⟩
  · have := insL_fine h (.inr trivial) x hx
    exact ⟨this.1, this.2.1⟩
  · obtain ⟨h1, s, hs, h2⟩ := outsL_mem (show x ∈ outsL lb i f from hx)
    have hp : lb.getD i pc0 ∈ lb := by
      rw [List.getD_eq_getElem?_getD, List.getElem?_eq_getElem (show i < lb.length from hi)]; exact List.getElem_mem hi
    have ho := of_decide_eq_true (hok _ hp)
    refine ⟨h1, ?_⟩
    rw [h2]
    simp only; omega
end Go.Proofs.YtflkfkbdgekpkaaDoor

/- Own rows of falls and of truths, as functions of the index: how stores turn them. -/
namespace Go.Proofs.YtflkfkbdgekpkaaDoor
open Go.ChangeShapes Go.WideShapes Go.ChangeAt Go.RowKit
set_option linter.unusedVariables false

/-- a row of n falls that may be written -/
structure FRow (w : World) (g n : Nat) (F : Nat → Fl) : Prop where
  lt : g < w.heap.size
  at_ : ∀ k, k < n → FlAt w g (k * 3) (F k)
  fz : ∀ j, w.frozen? ⟨g, j, none⟩ = false
theorem FRow.below {w w' : World} {g n : Nat} {F : Nat → Fl} (h : FRow w g n F) (b : Below w.heap.size w w') : FRow w' g n F :=
  ⟨Nat.lt_of_lt_of_le h.lt b.size, fun k hk => (h.at_ k hk).below b h.lt, fun j => (b.frozen (p := ⟨g, j, none⟩) h.lt).trans (h.fz j)⟩
theorem FRow.far {w : World} {g n : Nat} {F : Nat → Fl} {p : Addr} {v : Value} (h : FRow w g n F) (hp : p.block ≠ g) : FRow (w.setCell p v) g n F := by
  have hc : ∀ j, (w.setCell p v).cell? ⟨g, j, none⟩ = w.cell? ⟨g, j, none⟩ := fun j => World.cell?_of_block (w := w) (Below.heap_setCell _ _ _ _ (Ne.symm hp))
  refine ⟨by simpa [World.setCell] using h.lt, fun k hk => ?_, fun i => by rw [World.frozen?_setCell]; exact h.fz i⟩
  obtain ⟨h0, h1, h2⟩ := h.at_ k hk
  exact ⟨(hc _).trans h0, (hc _).trans h1, (hc _).trans h2⟩
theorem FRow.row {w : World} {g r n : Nat} {F : Nat → Fl} {cs : Array Value} (h : FRow w g n F) (hp : g ≠ r) : FRow (w.setRow r cs) g n F := by
  have hb : (w.setRow r cs).heap[g]? = w.heap[g]? := setRow_other _ _ _ _ hp
  have hc : ∀ j, (w.setRow r cs).cell? ⟨g, j, none⟩ = w.cell? ⟨g, j, none⟩ := fun j => World.cell?_of_block (w := w) hb
  refine ⟨by simpa [World.setRow] using h.lt, fun k hk => ?_, fun j => (World.frozen?_of_block (w := w) hb).trans (h.fz j)⟩
  obtain ⟨h0, h1, h2⟩ := h.at_ k hk
  exact ⟨(hc _).trans h0, (hc _).trans h1, (hc _).trans h2⟩
theorem FRow.of_block {w w' : World} {g n : Nat} {F : Nat → Fl} (h : FRow w g n F) (e : w'.heap[g]? = w.heap[g]?) (hs : w.heap.size ≤ w'.heap.size) : FRow w' g n F := by
  have hc : ∀ j, w'.cell? ⟨g, j, none⟩ = w.cell? ⟨g, j, none⟩ := fun j => World.cell?_of_block (w := w) e
  refine ⟨Nat.lt_of_lt_of_le h.lt hs, fun k hk => ?_, fun j => (World.frozen?_of_block (w := w) e).trans (h.fz j)⟩
  obtain ⟨h0, h1, h2⟩ := h.at_ k hk
  exact ⟨(hc _).trans h0, (hc _).trans h1, (hc _).trans h2⟩
theorem FRow.drew {w : World} {g n : Nat} {F : Nat → Fl} (h : FRow w g n F) : FRow w.drew g n F := ⟨h.lt, h.at_, h.fz⟩
theorem FRow.congr {w : World} {g n : Nat} {F H : Nat → Fl} (h : FRow w g n F) (e : ∀ k, k < n → F k = H k) : FRow w g n H :=
  ⟨h.lt, fun k hk => by rw [← e k hk]; exact h.at_ k hk, h.fz⟩
/-- the three cells of a fall, one after another -/
theorem FRow.put {w : World} {g n k : Nat} {F : Nat → Fl} {f : Fl} (h : FRow w g n F) (hk : k < n) :
    FRow (((w.setCell ⟨g, k * 3, none⟩ (.int .i64 f.tick)).setCell ⟨g, k * 3 + 1, none⟩ (.int .i8 f.frm)).setCell ⟨g, k * 3 + 2, none⟩ (.int .i64 f.who)) g n (set_ F k f) := by
  obtain ⟨c0, c1, c2⟩ := h.at_ k hk
  have ne : ∀ {a b : Nat}, a ≠ b → (⟨g, a, none⟩ : Addr) ≠ ⟨g, b, none⟩ := by intro a b hab e; injection e with _ e2 _; exact hab e2
  refine ⟨by simpa [World.setCell] using h.lt, fun i hi => ?_, fun i => by simp only [World.frozen?_setCell]; exact h.fz i⟩
  by_cases e : i = k
  · subst e
    rw [set_same]
    refine ⟨?_, ?_, ?_⟩
    · rw [World.cell?_setCell_other _ _ _ _ (ne (by omega)), World.cell?_setCell_other _ _ _ _ (ne (by omega))]
      exact World.cell?_setCell_same _ _ _ c0
    · rw [World.cell?_setCell_other _ _ _ _ (ne (by omega))]
      exact World.cell?_setCell_same _ _ _ ((World.cell?_setCell_other _ _ _ _ (ne (by omega))).trans c1)
    · exact World.cell?_setCell_same _ _ _ ((World.cell?_setCell_other _ _ _ _ (ne (by omega))).trans ((World.cell?_setCell_other _ _ _ _ (ne (by omega))).trans c2))
  · rw [set_ne _ _ e]
    obtain ⟨d0, d1, d2⟩ := h.at_ i hi
    refine ⟨?_, ?_, ?_⟩
    · rw [World.cell?_setCell_other _ _ _ _ (ne (by omega)), World.cell?_setCell_other _ _ _ _ (ne (by omega)), World.cell?_setCell_other _ _ _ _ (ne (by omega))]; exact d0
    · rw [World.cell?_setCell_other _ _ _ _ (ne (by omega)), World.cell?_setCell_other _ _ _ _ (ne (by omega)), World.cell?_setCell_other _ _ _ _ (ne (by omega))]; exact d1
    · rw [World.cell?_setCell_other _ _ _ _ (ne (by omega)), World.cell?_setCell_other _ _ _ _ (ne (by omega)), World.cell?_setCell_other _ _ _ _ (ne (by omega))]; exact d2

/-- a row of n truths that may be written -/
structure BRow (w : World) (g n : Nat) (dn : Nat → Bool) : Prop where
  lt : g < w.heap.size
  at_ : ∀ k, k < n → w.cell? ⟨g, k, none⟩ = some (.bool (dn k))
  fz : ∀ j, w.frozen? ⟨g, j, none⟩ = false
theorem BRow.below {w w' : World} {g n : Nat} {F : Nat → Bool} (h : BRow w g n F) (b : Below w.heap.size w w') : BRow w' g n F :=
  ⟨Nat.lt_of_lt_of_le h.lt b.size, fun k hk => (b.cell (p := ⟨g, k, none⟩) h.lt).trans (h.at_ k hk), fun j => (b.frozen (p := ⟨g, j, none⟩) h.lt).trans (h.fz j)⟩
theorem BRow.far {w : World} {g n : Nat} {F : Nat → Bool} {p : Addr} {v : Value} (h : BRow w g n F) (hp : p.block ≠ g) : BRow (w.setCell p v) g n F :=
  ⟨by simpa [World.setCell] using h.lt, fun k hk => (World.cell?_of_block (w := w) (Below.heap_setCell _ _ _ _ (Ne.symm hp))).trans (h.at_ k hk), fun i => by rw [World.frozen?_setCell]; exact h.fz i⟩
theorem BRow.put {w : World} {g n k : Nat} {F : Nat → Bool} {b : Bool} (h : BRow w g n F) (hk : k < n) : BRow (w.setCell ⟨g, k, none⟩ (.bool b)) g n (set_ F k b) := by
  refine ⟨by simpa [World.setCell] using h.lt, fun i hi => ?_, fun i => by rw [World.frozen?_setCell]; exact h.fz i⟩
  by_cases e : i = k
  · subst e
    rw [set_same]
    exact World.cell?_setCell_same _ _ _ (h.at_ i hi)
  · rw [set_ne _ _ e, World.cell?_setCell_other _ _ _ _ (by intro x; injection x with _ x2 _; exact e x2.symm)]
    exact h.at_ i hi
/-- how many are not done -/
def undone (dn : Nat → Bool) : Nat → Nat
  | 0 => 0
  | n + 1 => undone dn n + if dn n = true then 0 else 1
theorem undone_set {dn : Nat → Bool} {k : Nat} (h : dn k = false) : ∀ n, k < n → undone (set_ dn k true) n + 1 = undone dn n
  | 0, hk => absurd hk (by omega)
  | n + 1, hk => by
    simp only [undone]
    by_cases e : n = k
    · subst e
      have hs : ∀ m, m ≤ n → undone (set_ dn n true) m = undone dn m := by
        intro m
        induction m with
        | zero => intro _; rfl
        | succ m ih => intro hm; simp only [undone]; rw [ih (by omega), set_ne _ _ (by omega)]
      rw [hs n (Nat.le_refl _), set_same, if_pos rfl, h]
      rfl
    · have := undone_set h n (by omega)
      rw [set_ne _ _ e]; omega
end Go.Proofs.YtflkfkbdgekpkaaDoor

/- The model's run: the mathematics of its rounds. -/
namespace Go.Proofs.YtflkfkbdgekpkaaDoor
open Go.ChangeShapes Go.WideShapes Go.ChangeAt Go.RowKit
set_option linter.unusedVariables false

theorem hitAtL_rx {lb : List Pc} {x y : Int} {f : Fl} {h : Nat × Fl} (m : h ∈ hitAtL lb x y f) : rxF (lb.getD h.1 pc0).kind (lb.getD h.1 pc0).turn h.2.frm = true := by
  unfold hitAtL at m
  split at m
  · rename_i hc
    obtain rfl := List.mem_singleton.1 m
    exact hc.2
  · simp at m
theorem insL_rx {lb : List Pc} {h : Nat × Fl} : ∀ {l : List Pu}, h ∈ insL lb l → rxF (lb.getD h.1 pc0).kind (lb.getD h.1 pc0).turn h.2.frm = true
  | [], m => by simp [insL] at m
  | p :: l, m => by
    rcases List.mem_append.1 (show h ∈ hitAtL lb p.x p.y ⟨p.tick, p.side, -1⟩ ++ insL lb l from m) with g | g
    · exact hitAtL_rx g
    · exact insL_rx g
theorem outU_rx {lb : List Pc} {p : Pc} {i : Int} {f : Fl} {h : Nat × Fl} : ∀ {k : Nat}, h ∈ outU lb p i f k → rxF (lb.getD h.1 pc0).kind (lb.getD h.1 pc0).turn h.2.frm = true
  | 0, m => by simp [outU] at m
  | k + 1, m => by
    rcases List.mem_append.1 (show h ∈ outU lb p i f k ++ outS lb p i f k from m) with g | g
    · exact outU_rx g
    · unfold outS at g
      split at g
      · exact hitAtL_rx g
      · simp at g
theorem cand_rx {lb : List Pc} {l : List Pu} {F : Nat → Fl} {k : Nat} {g : Fl} (h : Cand (gameL lb l) F k g) : rxF (lb.getD k pc0).kind (lb.getD k pc0).turn g.frm = true := by
  rcases h with h | ⟨i, _, _, h⟩
  · exact insL_rx (l := l) (h := (k, g)) h
  · exact outU_rx (h := (k, g)) h

theorem relaxs_append (dn : Nat → Bool) (N : Nat → Fl) (L M : List (Nat × Fl)) : relaxs dn N (L ++ M) = relaxs dn (relaxs dn N L) M := List.foldl_append ..
theorem relaxs_one (dn : Nat → Bool) (N : Nat → Fl) (x : Nat × Fl) : relaxs dn N [x] = relax dn N x := rfl
theorem upd_or (c g : Fl) : upd c g = c ∨ upd c g = g := by unfold upd; split <;> simp
theorem relax_from (dn : Nat → Bool) (N : Nat → Fl) (x : Nat × Fl) (k : Nat) : relax dn N x k = N k ∨ (x.1 = k ∧ relax dn N x k = x.2) := by
  unfold relax
  split
  · exact .inl rfl
  · by_cases e : k = x.1
    · subst e
      rw [set_same]
      rcases upd_or (N x.1) x.2 with h | h
      · exact .inl h
      · exact .inr ⟨rfl, h⟩
    · exact .inl (set_ne _ _ e)
theorem relaxs_from (dn : Nat → Bool) (k : Nat) : ∀ (L : List (Nat × Fl)) (N : Nat → Fl), relaxs dn N L k = N k ∨ ∃ x ∈ L, x.1 = k ∧ relaxs dn N L k = x.2
  | [], N => .inl rfl
  | x :: L, N => by
    rcases relaxs_from dn k L (relax dn N x) with h | ⟨y, hy, h1, h2⟩
    · rcases relax_from dn N x k with g | ⟨g1, g2⟩
      · exact .inl (show relaxs dn (relax dn N x) L k = N k from h.trans g)
      · exact .inr ⟨x, List.mem_cons_self .., g1, (show relaxs dn (relax dn N x) L k = x.2 from h.trans g2)⟩
    · exact .inr ⟨y, List.mem_cons_of_mem _ hy, h1, h2⟩
theorem relax_no {dn : Nat → Bool} {N : Nat → Fl} {k : Nat} {g : Fl} (h : ¬ ((N k).tick < 0 ∨ lessF g (N k))) : ∀ j, N j = relax dn N (k, g) j := by
  intro j
  unfold relax
  split
  · rfl
  · by_cases e : j = k
    · subst e
      rw [set_same]
      simp only [upd]
      rw [if_neg h]
    · exact (set_ne _ _ e).symm
theorem relax_done {dn : Nat → Bool} {N : Nat → Fl} {k : Nat} {g : Fl} (h : dn k = true) : ∀ j, N j = relax dn N (k, g) j := by
  intro j
  unfold relax
  rw [if_pos h]
theorem relax_yes {dn : Nat → Bool} {N : Nat → Fl} {k : Nat} {g : Fl} (hd : dn k = false) (h : (N k).tick < 0 ∨ lessF g (N k)) : ∀ j, set_ N k g j = relax dn N (k, g) j := by
  intro j
  unfold relax
  rw [if_neg (by simp [hd])]
  simp only [upd]
  rw [if_pos h]

theorem undone_le (dn : Nat → Bool) : ∀ n, undone dn n ≤ n
  | 0 => Nat.le_refl _
  | n + 1 => by simp only [undone]; have := undone_le dn n; split <;> omega
/-- sides as they may be -/
def Frm (m : Nat) (N : Nat → Fl) : Prop := ∀ k, k < m → 0 ≤ (N k).frm ∧ (N k).frm ≤ 3
theorem Frm.relaxs {m : Nat} {dn : Nat → Bool} {N : Nat → Fl} {L : List (Nat × Fl)} (h : Frm m N) (hL : ∀ x ∈ L, 0 ≤ x.2.frm ∧ x.2.frm ≤ 3) : Frm m (relaxs dn N L) := by
  intro k hk
  rcases relaxs_from dn k L N with g | ⟨x, hx, _, g⟩
  · rw [g]; exact h k hk
  · rw [g]; exact hL x hx
theorem frm_stay (m : Nat) : Frm m (fun _ => stay) := fun k _ => by simp [stay]
theorem insL_frm {lb : List Pc} {l : List Pu} (h : ∀ p ∈ l, p.plain = true) (j : Nat) : ∀ x ∈ insL lb (l.take j), 0 ≤ x.2.frm ∧ x.2.frm ≤ 3 := fun x hx => by
  have := insL_fine (lb := lb) (l := l.take j) (fun p hp => h p (List.mem_of_mem_take hp)) (.inr trivial) x hx
  exact ⟨this.2.2.2.1, this.2.2.2.2.1⟩
theorem outU_frm {lb : List Pc} {p : Pc} {i : Int} {f : Fl} {k : Nat} : ∀ x ∈ outU lb p i f k, 0 ≤ x.2.frm ∧ x.2.frm ≤ 3 := fun x hx => by
  obtain ⟨_, s, _, h⟩ := outU_mem hx
  rw [h]; simp only; omega
/-- what holds between two rounds of the model's search -/
structure MInv (lb : List Pc) (l : List Pu) (m : Nat) (dn : Nat → Bool) (F N : Nat → Fl) : Prop where
  inv : InvM (gameL lb l) dn F N
  fine : ∀ k, k < m → N k = stay ∨ (N k).fine m (1000 + 9 * ((m - undone dn m : Nat) : Int))
theorem Fl.fine.mono2 {f : Fl} {n : Nat} {a b : Int} (h : f.fine n a) (hab : a ≤ b) : f.fine n b := by unfold Fl.fine at *; omega
theorem MInv.frm {lb : List Pc} {l : List Pu} {m : Nat} {dn : Nat → Bool} {F N : Nat → Fl} (h : MInv lb l m dn F N) : Frm m N := fun k hk => by
  rcases h.fine k hk with g | g
  · rw [g]; simp [stay]
  · exact ⟨g.2.2.1, g.2.2.2.1⟩
theorem MInv.start {lb : List Pc} {l : List Pu} {m : Nat} (hm : lb.length = m) (hpl : ∀ q ∈ l, q.plain = true) : MInv lb l m (fun _ => false) (fun _ => stay) (relaxs (fun _ => false) (fun _ => stay) (insL lb l)) := by
  refine ⟨InvM.start fun k hk => ?_, fun k hk => ?_⟩
  · exact best_congr (fun g => by simp [gameL]) (relaxs_best (dn := fun _ => false) (k := k) rfl (insL lb l) (fun _ => stay) (fun _ => False) (fun x hx => (insL_fine hpl (.inr trivial) x hx).2.1) best_none)
  · rcases relaxs_from (fun _ => false) k (insL lb l) (fun _ => stay) with g | ⟨x, hx, _, g⟩
    · exact .inl g
    · have := (insL_fine hpl (.inr trivial) x hx).2
      rw [hm] at this
      exact .inr (by rw [g]; exact this.mono2 (by omega))
theorem MInv.step {lb : List Pc} {l : List Pu} {m : Nat} {dn : Nat → Bool} {F N : Nat → Fl} (hm : lb.length = m) (hok : ∀ q ∈ lb, q.ok = true) (hpl : ∀ q ∈ l, q.plain = true) (h : MInv lb l m dn F N) {a : Nat} (ha : a < m) (hd : dn a = false) (h0 : 0 ≤ (N a).tick)
    (hmin : ∀ k, k < m → dn k = false → 0 ≤ (N k).tick → (N a).tick ≤ (N k).tick) :
    MInv lb l m (set_ dn a true) (set_ F a (N a)) (relaxs (set_ dn a true) N (outsL lb a (N a))) := by
  have hu := undone_set hd m ha
  have hul := undone_le dn m
  refine ⟨h.inv.step (gameL_ok hok hpl) (show a < lb.length by omega) hd h0 (fun k hk => hmin k (show k < m by rw [← hm]; exact hk)), fun k hk => ?_⟩
  have hNa : (N a).fine m (1000 + 9 * ((m - undone dn m : Nat) : Int)) := by
    rcases h.fine a ha with g | g
    · rw [g] at h0; simp [stay] at h0
    · exact g
  rcases relaxs_from (set_ dn a true) k (outsL lb a (N a)) N with g | ⟨x, hx, _, g⟩
  · rw [g]
    rcases h.fine k hk with g | g
    · exact .inl g
    · exact .inr (g.mono2 (by omega))
  · obtain ⟨_, h2, _⟩ := outsL_fine hok (show a < lb.length by omega) (by rw [hm]; exact hNa) x hx
    rw [hm] at h2
    exact .inr (by rw [g]; exact h2.mono2 (by omega))
theorem MInv.at_ {lb : List Pc} {l : List Pu} {m : Nat} {dn : Nat → Bool} {F N : Nat → Fl} (hm : lb.length = m) (hmm : m ≤ 200) (h : MInv lb l m dn F N) {a : Nat} (ha : a < m) (h0 : 0 ≤ (N a).tick) :
    (N a).fine m 2800 ∧ rxF (lb.getD a pc0).kind (lb.getD a pc0).turn (N a).frm = true := by
  refine ⟨?_, cand_rx (l := l) ((h.inv.b a (show a < lb.length by omega)).2 h0).1⟩
  rcases h.fine a ha with g | g
  · rw [g] at h0; simp [stay] at h0
  · exact g.mono2 (by omega)
/-- the earliest of the first k that wait -/
def Fst (dn : Nat → Bool) (N : Nat → Fl) (k : Nat) (a : Int) : Prop :=
  (a = -1 ∧ ∀ j, j < k → dn j = false → (N j).tick < 0) ∨ ∃ i : Nat, a = i ∧ i < k ∧ dn i = false ∧ 0 ≤ (N i).tick ∧ ∀ j, j < k → dn j = false → 0 ≤ (N j).tick → (N i).tick ≤ (N j).tick
theorem Fst.zero (dn : Nat → Bool) (N : Nat → Fl) : Fst dn N 0 (-1) := .inl ⟨rfl, fun j hj => by omega⟩
theorem Fst.done {dn : Nat → Bool} {N : Nat → Fl} {k : Nat} {a : Int} (h : Fst dn N k a) (hd : dn k = true) : Fst dn N (k + 1) a := by
  rcases h with ⟨h1, h2⟩ | ⟨i, h1, h2, h3, h4, h5⟩
  · refine .inl ⟨h1, fun j hj g => ?_⟩
    by_cases e : j = k
    · subst e; rw [hd] at g; cases g
    · exact h2 j (by omega) g
  · refine .inr ⟨i, h1, by omega, h3, h4, fun j hj g g0 => ?_⟩
    by_cases e : j = k
    · subst e; rw [hd] at g; cases g
    · exact h5 j (by omega) g g0
theorem Fst.stays {dn : Nat → Bool} {N : Nat → Fl} {k : Nat} {a : Int} (h : Fst dn N k a) (hd : (N k).tick < 0) : Fst dn N (k + 1) a := by
  rcases h with ⟨h1, h2⟩ | ⟨i, h1, h2, h3, h4, h5⟩
  · refine .inl ⟨h1, fun j hj g => ?_⟩
    by_cases e : j = k
    · subst e; exact hd
    · exact h2 j (by omega) g
  · refine .inr ⟨i, h1, by omega, h3, h4, fun j hj g g0 => ?_⟩
    by_cases e : j = k
    · subst e; omega
    · exact h5 j (by omega) g g0
theorem Fst.late {dn : Nat → Bool} {N : Nat → Fl} {k i : Nat} (h : Fst dn N k (i : Int)) (hd : (N i).tick ≤ (N k).tick) : Fst dn N (k + 1) (i : Int) := by
  rcases h with ⟨h1, h2⟩ | ⟨i', h1, h2, h3, h4, h5⟩
  · omega
  · obtain rfl : i = i' := by omega
    refine .inr ⟨i, rfl, by omega, h3, h4, fun j hj g g0 => ?_⟩
    by_cases e : j = k
    · subst e; exact hd
    · exact h5 j (by omega) g g0
theorem Fst.first {dn : Nat → Bool} {N : Nat → Fl} {k : Nat} (h : Fst dn N k (-1)) (hd : dn k = false) (h0 : 0 ≤ (N k).tick) : Fst dn N (k + 1) (k : Int) := by
  rcases h with ⟨h1, h2⟩ | ⟨i, h1, h2, h3, h4, h5⟩
  · refine .inr ⟨k, rfl, by omega, hd, h0, fun j hj g g0 => ?_⟩
    by_cases e : j = k
    · subst e; exact Int.le_refl _
    · have := h2 j (by omega) g; omega
  · omega
theorem Fst.next {dn : Nat → Bool} {N : Nat → Fl} {k i : Nat} (h : Fst dn N k (i : Int)) (hd : dn k = false) (h0 : 0 ≤ (N k).tick) (hl : (N k).tick < (N i).tick) : Fst dn N (k + 1) (k : Int) := by
  rcases h with ⟨h1, h2⟩ | ⟨i', h1, h2, h3, h4, h5⟩
  · omega
  · obtain rfl : i = i' := by omega
    refine .inr ⟨k, rfl, by omega, hd, h0, fun j hj g g0 => ?_⟩
    by_cases e : j = k
    · subst e; exact Int.le_refl _
    · have := h5 j (by omega) g g0; omega
theorem Fst.form {dn : Nat → Bool} {N : Nat → Fl} {k : Nat} {a : Int} (h : Fst dn N k a) : a = -1 ∨ ∃ i : Nat, a = i ∧ i < k := by
  rcases h with ⟨h1, _⟩ | ⟨i, h1, h2, _⟩
  · exact .inl h1
  · exact .inr ⟨i, h1, h2⟩

theorem bits_eq (a b c d : Bool) : ∀ s : Nat, s < 4 → (bitI a 1 + bitI b 2 + bitI c 4 + bitI d 8) / 2 ^ s % 2 = bitI (if s = 0 then a else if s = 1 then b else if s = 2 then c else d) 1 := by
  intro s hs
  have : s = 0 ∨ s = 1 ∨ s = 2 ∨ s = 3 := by omega
  rcases this with rfl | rfl | rfl | rfl <;> cases a <;> cases b <;> cases c <;> cases d <;> decide
theorem rxB_bit {k t f : Int} (h : rxF k t f = true) (s : Nat) (hs : s < 4) : rxB k t f / 2 ^ s % 2 = bitI (rxH k t f s) 1 := by
  unfold rxB
  rw [if_pos h, bits_eq _ _ _ _ s hs]
  have : s = 0 ∨ s = 1 ∨ s = 2 ∨ s = 3 := by omega
  rcases this with rfl | rfl | rfl | rfl <;> rfl
theorem rxB_range {k t f : Int} : -1 ≤ rxB k t f ∧ rxB k t f ≤ 15 ∧ (0 ≤ rxB k t f ↔ rxF k t f = true) := by
  unfold rxB
  split
  · rename_i h
    have hb : ∀ (b : Bool) (n : Int), 0 ≤ n → 0 ≤ bitI b n ∧ bitI b n ≤ n := by intro b n hn; cases b <;> simp [bitI, hn]
    have h0 := hb (rxH k t f 0) 1 (by omega)
    have h1 := hb (rxH k t f 1) 2 (by omega)
    have h2 := hb (rxH k t f 2) 4 (by omega)
    have h3 := hb (rxH k t f 3) 8 (by omega)
    exact ⟨by omega, by omega, by simp [h]; omega⟩
  · rename_i h
    exact ⟨by omega, by omega, by simp [h]⟩
end Go.Proofs.YtflkfkbdgekpkaaDoor

/- The model's order of hits, and the fall of a piece that stays. -/
namespace Go.Proofs.YtflkfkbdgekpkaaDoor
open Go.ChangeShapes Go.WideShapes Go.ChangeAt Go.RowKit
set_option linter.unusedVariables false
set_option linter.unusedSimpArgs false

theorem l02None_any (w : World) : Calls Tryd.prog 82 #[] w fun e w' => e = .returned (.agg #[.int .i64 (-1), .int .i8 0, .int .i64 (-1)]) ∧ Below w.heap.size w w' := by
  go_enter Tryd.func82, Tryd.ntmps82
  go_wp2
  exact bodyPost_ret (v := .agg #[.int .i64 (-1), .int .i8 0, .int .i64 (-1)]) (by simp [results, Tryd.results82, go_sem]) rfl ⟨rfl, by repeat (first | with_reducible exact Below.refl _ _ | (with_reducible refine kSet ?_ ?hB _; case hB => (simp; try omega)) | with_reducible refine kAlloc ?_ _ | with_reducible refine Below.drew ?_ | with_reducible refine kDrewN ?_ _ | with_reducible refine kTrans ?_ (by assumption))⟩
set_option maxHeartbeats 1000000 in
theorem l02Better_any (t s y : Int) (b o : Nat) (f : Fl) (w : World) (hc : FlAt w b o f) (hf : 0 ≤ f.frm ∧ f.frm ≤ 3) (R : Bool) (hR : decide (f.tick < 0 ∨ lessF ⟨t, s, y⟩ f) = R) :
    Calls Tryd.prog 87 #[.int .i64 t, .int .i64 s, .int .i64 y, .pointer (some ⟨b, o, none⟩)] w fun e w' => e = .returned (.bool R) ∧ Below w.heap.size w w' := by
  obtain ⟨c0, c1, c2⟩ := hc
  have hw : IntKind.i64.wrap f.frm = f.frm := IntWalk.i64_in _ (by omega)
  have hR' : (f.tick < 0 ∨ (t < f.tick ∨ (t = f.tick ∧ (s < f.frm ∨ (s = f.frm ∧ y < f.who))))) ↔ R = true := by rw [← hR]; unfold lessF; simp
  have HR := Lib.hid hR'
  clear hR hR'
  by_cases h1 : f.tick < 0
  · obtain rfl : R = true := HR.out.1 (by omega)
    clear HR
    go_enter Tryd.func87, Tryd.ntmps87
    go_wp2
    go_ret
    exact ⟨rfl, by repeat (first | with_reducible exact Below.refl _ _ | (with_reducible refine kSet ?_ ?hB _; case hB => (simp; try omega)) | with_reducible refine kAlloc ?_ _ | with_reducible refine Below.drew ?_ | with_reducible refine kDrewN ?_ _ | with_reducible refine kTrans ?_ (by assumption))⟩
  · by_cases h2 : t = f.tick
    · by_cases h3 : s = f.frm
      · by_cases h4 : y < f.who
        · obtain rfl : R = true := HR.out.1 (by omega)
          clear HR
          go_enter Tryd.func87, Tryd.ntmps87
          go_wp2
          go_ret
          exact ⟨rfl, by repeat (first | with_reducible exact Below.refl _ _ | (with_reducible refine kSet ?_ ?hB _; case hB => (simp; try omega)) | with_reducible refine kAlloc ?_ _ | with_reducible refine Below.drew ?_ | with_reducible refine kDrewN ?_ _ | with_reducible refine kTrans ?_ (by assumption))⟩
        · obtain rfl : R = false := Bool.eq_false_iff.2 (fun h => by have := HR.out.2 h; omega)
          clear HR
          go_enter Tryd.func87, Tryd.ntmps87
          go_wp2
          go_ret
          exact ⟨rfl, by repeat (first | with_reducible exact Below.refl _ _ | (with_reducible refine kSet ?_ ?hB _; case hB => (simp; try omega)) | with_reducible refine kAlloc ?_ _ | with_reducible refine Below.drew ?_ | with_reducible refine kDrewN ?_ _ | with_reducible refine kTrans ?_ (by assumption))⟩
      · by_cases h4 : s < f.frm
        · obtain rfl : R = true := HR.out.1 (by omega)
          clear HR
          go_enter Tryd.func87, Tryd.ntmps87
          go_wp2
          go_ret
          exact ⟨rfl, by repeat (first | with_reducible exact Below.refl _ _ | (with_reducible refine kSet ?_ ?hB _; case hB => (simp; try omega)) | with_reducible refine kAlloc ?_ _ | with_reducible refine Below.drew ?_ | with_reducible refine kDrewN ?_ _ | with_reducible refine kTrans ?_ (by assumption))⟩
        · obtain rfl : R = false := Bool.eq_false_iff.2 (fun h => by have := HR.out.2 h; omega)
          clear HR
          go_enter Tryd.func87, Tryd.ntmps87
          go_wp2
          go_ret
          exact ⟨rfl, by repeat (first | with_reducible exact Below.refl _ _ | (with_reducible refine kSet ?_ ?hB _; case hB => (simp; try omega)) | with_reducible refine kAlloc ?_ _ | with_reducible refine Below.drew ?_ | with_reducible refine kDrewN ?_ _ | with_reducible refine kTrans ?_ (by assumption))⟩
    · by_cases h4 : t < f.tick
      · obtain rfl : R = true := HR.out.1 (by omega)
        clear HR
        go_enter Tryd.func87, Tryd.ntmps87
        go_wp2
        go_ret
        exact ⟨rfl, by repeat (first | with_reducible exact Below.refl _ _ | (with_reducible refine kSet ?_ ?hB _; case hB => (simp; try omega)) | with_reducible refine kAlloc ?_ _ | with_reducible refine Below.drew ?_ | with_reducible refine kDrewN ?_ _ | with_reducible refine kTrans ?_ (by assumption))⟩
      · obtain rfl : R = false := Bool.eq_false_iff.2 (fun h => by have := HR.out.2 h; omega)
        clear HR
        go_enter Tryd.func87, Tryd.ntmps87
        go_wp2
        go_ret
        exact ⟨rfl, by repeat (first | with_reducible exact Below.refl _ _ | (with_reducible refine kSet ?_ ?hB _; case hB => (simp; try omega)) | with_reducible refine kAlloc ?_ _ | with_reducible refine Below.drew ?_ | with_reducible refine kDrewN ?_ _ | with_reducible refine kTrans ?_ (by assumption))⟩
end Go.Proofs.YtflkfkbdgekpkaaDoor
