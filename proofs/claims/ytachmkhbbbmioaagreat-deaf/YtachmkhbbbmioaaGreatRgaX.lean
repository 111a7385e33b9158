import Derived.Test.YtachmkhbbbmioaaGreatLineQX
import Derived.Test.YtachmkhbbbmioaaGreatFrAX
namespace Go.Proofs.YtachmkhbbbmioaaGreat

/-- A mark above another one. -/
def abvM (z y : El) : Prop := y.c < z.c ∨ (z.c = y.c ∧ y.k < z.k)

theorem abvM_trans {x y z : El} (h1 : abvM x y) (h2 : abvM y z) : abvM x z := by unfold abvM at *; omega
theorem abvM_irr {x y : El} (h1 : abvM x y) (h2 : abvM y x) : False := by unfold abvM at *; omega
theorem abvM_total {x y : El} (h : ¬ (x.c = y.c ∧ x.k = y.k)) (h2 : ¬ abvM x y) : abvM y x := by unfold abvM at *; omega

/-- A line in which all that stands between an element and its target has marks above the element's: P gives each mark's target. -/
structure Rga (P : Int → Int → Int × Int) (L : List El) : Prop where
  apart : L.Pairwise (fun x y => ¬ (x.c = y.c ∧ x.k = y.k))
  low : ∀ y ∈ L, (P y.c y.k).1 < y.c
  pos : ∀ y ∈ L, 0 < y.c
  gap : ∀ A y R, L = A ++ y :: R → ∃ A1 A2, A = A1 ++ A2 ∧ lc A1 = (P y.c y.k).1 ∧ lk A1 = (P y.c y.k).2 ∧ ∀ z ∈ A2, abvM z y

theorem rga_nil (P : Int → Int → Int × Int) : Rga P [] := ⟨List.Pairwise.nil, by simp, by simp, fun A y R h => by simp at h⟩

theorem behind_cut (e : El) : ∀ R : List El, ∃ S U, R = S ++ U ∧ behind e R = S ++ e :: U ∧ (∀ z ∈ S, abvM z e) ∧ ∀ u U', U = u :: U' → ¬ abvM u e
  | [] => ⟨[], [], rfl, rfl, by simp, by simp⟩
  | y :: R => by
    by_cases h : e.c < y.c ∨ (y.c = e.c ∧ e.k < y.k)
    · obtain ⟨S, U, h1, h2, h3, h4⟩ := behind_cut e R
      refine ⟨y :: S, U, by rw [h1]; rfl, by rw [behind, if_pos h, h2]; rfl, fun z hz => ?_, h4⟩
      rcases List.mem_cons.1 hz with rfl | hz
      · exact h
      · exact h3 z hz
    · refine ⟨[], y :: R, rfl, by rw [behind, if_neg h]; rfl, by simp, fun u U' hu => ?_⟩
      cases hu
      exact h

theorem last_append {A B : List El} (h : B ≠ []) : lc (A ++ B) = lc B ∧ lk (A ++ B) = lk B := by
  rcases snoc_cases B with rfl | ⟨C, x, rfl⟩
  · exact (h rfl).elim
  · obtain ⟨h1, h2, -, -⟩ := last_snoc (A ++ C) x
    obtain ⟨h3, h4, -, -⟩ := last_snoc C x
    rw [← List.append_assoc, h1, h2, h3, h4]
    exact ⟨rfl, rfl⟩

/-- One element more, where all copies put it. -/
theorem Rga.lay {P : Int → Int → Int × Int} {A R : List El} {e : El} (h : Rga P (A ++ R)) (he : P e.c e.k = (lc A, lk A)) (hl : lc A < e.c) (hp : 0 < e.c) (hf : ∀ z ∈ A ++ R, ¬ (z.c = e.c ∧ z.k = e.k)) : Rga P (A ++ behind e R) := by
  obtain ⟨S, U, rfl, hb, hS, hU⟩ := behind_cut e R
  rw [hb]
  have hmem : ∀ y ∈ A ++ (S ++ e :: U), y = e ∨ y ∈ A ++ (S ++ U) := by
    intro y hy
    simp only [List.mem_append, List.mem_cons] at hy ⊢
    rcases hy with hy | hy | hy | hy
    · exact .inr (.inl hy)
    · exact .inr (.inr (.inl hy))
    · exact .inl hy
    · exact .inr (.inr (.inr hy))
  refine ⟨?_, fun y hy => ?_, fun y hy => ?_, fun B y R' hB => ?_⟩
  · have h1 := h.apart
    rw [← List.append_assoc] at h1 ⊢
    obtain ⟨p1, p2, p3⟩ := List.pairwise_append.1 h1
    refine List.pairwise_append.2 ⟨p1, List.pairwise_cons.2 ⟨fun u hu q => hf u (by simp [hu]) ⟨q.1.symm, q.2.symm⟩, p2⟩, fun a ha b hb' => ?_⟩
    rcases List.mem_cons.1 hb' with rfl | hb'
    · exact hf a (by simp only [List.mem_append] at ha ⊢; rcases ha with ha | ha; exact .inl ha; exact .inr (.inl ha))
    · exact p3 a ha b hb'
  · rcases hmem y hy with rfl | hy
    · rw [he]; exact hl
    · exact h.low y hy
  · rcases hmem y hy with rfl | hy
    · exact hp
    · exact h.pos y hy
  · -- where y stands
    rw [← List.append_assoc] at hB
    rcases List.append_eq_append_iff.1 hB with ⟨C, hC1, hC2⟩ | ⟨C, hC1, hC2⟩
    · -- B = (A ++ S) ++ C, e :: U = C ++ y :: R'
      cases C with
      | nil =>
        simp only [List.nil_append, List.cons.injEq] at hC2
        obtain ⟨rfl, -⟩ := hC2
        rw [List.append_nil] at hC1
        exact ⟨A, S, hC1, by rw [he], by rw [he], hS⟩
      | cons c C =>
        simp only [List.cons_append, List.cons.injEq] at hC2
        obtain ⟨rfl, hU2⟩ := hC2
        obtain ⟨A1, A2, h1, h2, h3, h4⟩ := h.gap (A ++ S ++ C) y R' (by rw [hU2]; simp)
        have hey : (∀ z ∈ C, abvM z y) → abvM e y := by
          intro hC
          cases C with
          | nil =>
            simp only [List.nil_append] at hU2
            exact abvM_total (fun q => hf y (by rw [hU2]; simp) ⟨q.1, q.2⟩) (hU y R' hU2)
          | cons u C =>
            exact abvM_trans (abvM_total (fun q => hf u (by rw [hU2]; simp) ⟨q.1, q.2⟩) (hU u (C ++ y :: R') (by rw [hU2]; rfl))) (hC u (by simp))
        rcases List.append_eq_append_iff.1 h1 with ⟨D, hD1, hD2⟩ | ⟨D, hD1, hD2⟩
        · cases D with
          | nil =>
            rw [List.append_nil] at hD1
            rw [List.nil_append] at hD2
            refine ⟨A1, e :: A2, by rw [hC1, hD1, hD2], h2, h3, fun z hz => ?_⟩
            rcases List.mem_cons.1 hz with rfl | hz
            · exact hey (by rw [hD2]; exact h4)
            · exact h4 z hz
          | cons d D =>
            obtain ⟨l1, l2⟩ := last_append (A := A ++ S) (B := d :: D) (by simp)
            obtain ⟨l3, l4⟩ := last_append (A := A ++ S ++ [e]) (B := d :: D) (by simp)
            refine ⟨A ++ S ++ [e] ++ d :: D, A2, by rw [hC1, hD2]; simp, ?_, ?_, h4⟩
            · rw [l3, ← l1, ← hD1, h2]
            · rw [l4, ← l2, ← hD1, h3]
        · refine ⟨A1, D ++ e :: C, by rw [hC1, hD1]; simp, h2, h3, fun z hz => ?_⟩
          rw [hD2] at h4
          rcases List.mem_append.1 hz with hz | hz
          · exact h4 z (by simp [hz])
          · rcases List.mem_cons.1 hz with rfl | hz
            · exact hey (fun z hz => h4 z (by simp [hz]))
            · exact h4 z (by simp [hz])
    · -- A ++ S = B ++ C, y :: R' = C ++ e :: U
      cases C with
      | nil =>
        simp only [List.nil_append, List.cons.injEq] at hC2
        obtain ⟨rfl, -⟩ := hC2
        rw [List.append_nil] at hC1
        exact ⟨A, S, hC1.symm, by rw [he], by rw [he], hS⟩
      | cons c C =>
        simp only [List.cons_append, List.cons.injEq] at hC2
        obtain ⟨rfl, -⟩ := hC2
        exact h.gap B y (C ++ U) (by rw [← List.append_assoc, hC1]; simp)

/-- The marks of a line. -/
def mks (L : List El) : List (Int × Int) := L.map fun x => (x.c, x.k)

theorem mks_append (A B : List El) : mks (A ++ B) = mks A ++ mks B := by simp [mks]

/-- Only the marks count. -/
theorem Rga.same {P : Int → Int → Int × Int} {L L' : List El} (h : Rga P L) (e : mks L' = mks L) : Rga P L' := by
  have at' : ∀ (A' : List El) (y' : El) (R' : List El), L' = A' ++ y' :: R' → ∃ A y R, L = A ++ y :: R ∧ mks A = mks A' ∧ y.c = y'.c ∧ y.k = y'.k := by
    intro A' y' R' hL
    rw [hL, mks_append] at e
    obtain ⟨A, B, rfl, h1, h2⟩ := List.map_eq_append_iff.1 e.symm
    obtain ⟨y, R, rfl, h3, -⟩ := List.map_eq_cons_iff.1 h2
    simp only [Prod.mk.injEq] at h3
    exact ⟨A, y, R, rfl, h1, h3.1, h3.2⟩
  have lcs : ∀ (A B : List El), mks A = mks B → lc A = lc B ∧ lk A = lk B := by
    intro A B hAB
    rcases snoc_cases A with rfl | ⟨A1, x, rfl⟩
    · have : B = [] := by
        cases B with
        | nil => rfl
        | cons b B => simp [mks] at hAB
      rw [this]; exact ⟨rfl, rfl⟩
    · rcases snoc_cases B with rfl | ⟨B1, y, rfl⟩
      · simp [mks] at hAB
      · rw [mks_append, mks_append] at hAB
        have h2 := List.append_inj_right' hAB rfl
        simp only [mks, List.map_cons, List.map_nil, List.cons.injEq, Prod.mk.injEq, and_true] at h2
        obtain ⟨a1, a2, -, -⟩ := last_snoc A1 x
        obtain ⟨b1, b2, -, -⟩ := last_snoc B1 y
        rw [a1, a2, b1, b2]
        exact h2
  have mem : ∀ y' ∈ L', ∃ y ∈ L, y.c = y'.c ∧ y.k = y'.k := fun y' hy => by
    obtain ⟨A', R', hL⟩ := List.append_of_mem hy
    obtain ⟨A, y, R, rfl, -, h1, h2⟩ := at' A' y' R' hL
    exact ⟨y, by simp, h1, h2⟩
  refine ⟨?_, fun y' hy => ?_, fun y' hy => ?_, fun A' y' R' hL => ?_⟩
  · have h1 : (mks L).Pairwise (fun a b => a ≠ b) := by
      unfold mks
      rw [List.pairwise_map]
      exact h.apart.imp (fun hh q => hh (by simpa using q))
    rw [← e] at h1
    unfold mks at h1
    rw [List.pairwise_map] at h1
    exact h1.imp (fun hh q => hh (by simp [q.1, q.2]))
  · obtain ⟨y, hy, h1, h2⟩ := mem y' hy
    rw [← h1, ← h2]; exact h.low y hy
  · obtain ⟨y, hy, h1, h2⟩ := mem y' hy
    rw [← h1]; exact h.pos y hy
  · obtain ⟨A, y, R, rfl, hA, h1, h2⟩ := at' A' y' R' hL
    obtain ⟨A1, A2, rfl, g1, g2, g3⟩ := h.gap A y R rfl
    rw [mks_append] at hA
    obtain ⟨B1, B2, rfl, hB1, hB2⟩ := List.map_eq_append_iff.1 hA.symm
    obtain ⟨c1, c2⟩ := lcs B1 A1 hB1
    refine ⟨B1, B2, rfl, by rw [c1, g1, h1, h2], by rw [c2, g2, h1, h2], fun z hz => ?_⟩
    have hm : (z.c, z.k) ∈ mks A2 := by rw [← hB2]; exact List.mem_map.2 ⟨z, hz, rfl⟩
    obtain ⟨z', hz', ez⟩ := List.mem_map.1 hm
    simp only [Prod.mk.injEq] at ez
    have := g3 z' hz'
    unfold abvM at this ⊢
    rw [ez.1, ez.2, h1, h2] at this
    exact this

theorem last_filter {A : List El} {C : El → Bool} (h : ∀ B p, A = B ++ [p] → C p = true) : lc (A.filter C) = lc A ∧ lk (A.filter C) = lk A := by
  rcases snoc_cases A with rfl | ⟨B, p, rfl⟩
  · exact ⟨rfl, rfl⟩
  · have hp := h B p rfl
    rw [List.filter_append, List.filter_cons, if_pos hp, List.filter_nil]
    obtain ⟨a1, a2, -, -⟩ := last_snoc B p
    obtain ⟨b1, b2, -, -⟩ := last_snoc (B.filter C) p
    rw [a1, a2, b1, b2]
    exact ⟨rfl, rfl⟩

/-- Fewer elements: whoever stays, its target stays. -/
theorem Rga.filter {P : Int → Int → Int × Int} {L : List El} (h : Rga P L) (C : El → Bool) (hC : ∀ y ∈ L, C y = true → ∀ z ∈ L, z.c = (P y.c y.k).1 → z.k = (P y.c y.k).2 → C z = true) : Rga P (L.filter C) := by
  refine ⟨h.apart.filter _, fun y hy => h.low y (List.mem_filter.1 hy).1, fun y hy => h.pos y (List.mem_filter.1 hy).1, fun A y R hA => ?_⟩
  obtain ⟨L1, L2, rfl, h1, h2⟩ := List.filter_eq_append_iff.1 hA
  obtain ⟨L3, L4, rfl, h3, h4, h5⟩ := List.filter_eq_cons_iff.1 h2
  obtain ⟨A1, A2, g0, g1, g2, g3⟩ := h.gap (L1 ++ L3) y L4 (by simp)
  have hl : lc (A1.filter C) = lc A1 ∧ lk (A1.filter C) = lk A1 := last_filter (fun B p hp => by
    obtain ⟨l1, l2, -, -⟩ := last_snoc B p
    rw [hp] at g1 g2
    refine hC y (by simp) h4 p ?_ (by rw [← g1, l1]) (by rw [← g2, l2])
    have : p ∈ L1 ++ L3 := by rw [g0, hp]; simp
    simp only [List.mem_append, List.mem_cons] at this ⊢
    rcases this with q | q
    · exact .inl q
    · exact .inr (.inl q))
  have e3 : L3.filter C = [] := by
    apply List.filter_eq_nil_iff.2
    exact h3
  refine ⟨A1.filter C, A2.filter C, ?_, by rw [hl.1, g1], by rw [hl.2, g2], fun z hz => g3 z (List.mem_filter.1 hz).1⟩
  rw [← List.filter_append, ← g0, List.filter_append, e3, List.append_nil, h1]

theorem max_mark : ∀ (L : List El), L ≠ [] → ∃ m ∈ L, ∀ z ∈ L, ¬ abvM z m
  | [], h => (h rfl).elim
  | [x], _ => ⟨x, by simp, fun z hz q => by rw [List.mem_singleton.1 hz] at q; exact abvM_irr q q⟩
  | x :: y :: L, _ => by
    obtain ⟨m, hm, h⟩ := max_mark (y :: L) (by simp)
    by_cases q : abvM x m
    · refine ⟨x, by simp, fun z hz => ?_⟩
      rcases List.mem_cons.1 hz with rfl | hz
      · exact fun q => abvM_irr q q
      · exact fun q2 => h z hz (abvM_trans q2 q)
    · refine ⟨m, by simp at hm ⊢; exact .inr hm, fun z hz => ?_⟩
      rcases List.mem_cons.1 hz with rfl | hz
      · exact q
      · exact h z hz

theorem cut_one {α : Type} {x : α} : ∀ {A B R S : List α}, x ∉ A → x ∉ B → A ++ x :: R = B ++ x :: S → A = B ∧ R = S
  | [], [], R, S, _, _, h => by simp at h; exact ⟨rfl, h⟩
  | [], b :: B, R, S, _, hb, h => by simp at h; exact (hb (by rw [h.1]; simp)).elim
  | a :: A, [], R, S, ha, _, h => by simp at h; exact (ha (by rw [h.1]; simp)).elim
  | a :: A, b :: B, R, S, ha, hb, h => by
    simp only [List.cons_append, List.cons.injEq] at h
    obtain ⟨h1, h2⟩ := cut_one (fun q => ha (by simp [q])) (fun q => hb (by simp [q])) h.2
    exact ⟨by rw [h.1, h1], h2⟩

theorem lc_zero {A : List El} (hp : ∀ y ∈ A, 0 < y.c) (h : lc A = 0) : A = [] := by
  rcases snoc_cases A with rfl | ⟨B, p, rfl⟩
  · rfl
  · have := hp p (by simp)
    rw [(last_snoc B p).1] at h
    omega

/-- Without the greatest. -/
theorem Rga.out {P : Int → Int → Int × Int} {A R : List El} {m : El} (h : Rga P (A ++ m :: R)) (hm : ∀ z ∈ A ++ m :: R, ¬ abvM z m) : Rga P (A ++ R) ∧ lc A = (P m.c m.k).1 ∧ lk A = (P m.c m.k).2 := by
  obtain ⟨h1, h2⟩ := apart_mem h.apart
  refine ⟨?_, ?_⟩
  · have e : (A ++ m :: R).filter (fun z => !(z.c == m.c && z.k == m.k)) = A ++ R := by
      rw [List.filter_append, List.filter_cons, if_neg (by simp)]
      congr 1
      · apply List.filter_eq_self.2
        intro z hz
        have := h1 z hz
        simp only [Bool.not_eq_true', Bool.and_eq_false_iff, beq_eq_false_iff_ne]
        omega
      · apply List.filter_eq_self.2
        intro z hz
        have := h2 z hz
        simp only [Bool.not_eq_true', Bool.and_eq_false_iff, beq_eq_false_iff_ne]
        omega
    rw [← e]
    refine h.filter _ (fun y hy hyc z hz e1 e2 => ?_)
    simp only [Bool.not_eq_true', Bool.and_eq_false_iff, beq_eq_false_iff_ne] at hyc ⊢
    have hl := h.low y hy
    have hn := hm y hy
    unfold abvM at hn
    omega
  · obtain ⟨A1, A2, g0, g1, g2, g3⟩ := h.gap A m R rfl
    have : A2 = [] := by
      cases A2 with
      | nil => rfl
      | cons z A2 => exact (hm z (by rw [g0]; simp) (g3 z (by simp))).elim
    rw [this, List.append_nil] at g0
    rw [g0]
    exact ⟨g1, g2⟩

/-- The same marks, the same order. -/
theorem rga_one {P : Int → Int → Int × Int} : ∀ (n : Nat) {L1 L2 : List El}, L1.length = n → Rga P L1 → Rga P L2 → (∀ m, m ∈ mks L1 ↔ m ∈ mks L2) → mks L1 = mks L2
  | 0, L1, L2, hn, _, _, he => by
    have e1 : L1 = [] := List.length_eq_zero_iff.1 hn
    have e2 : L2 = [] := by
      cases L2 with
      | nil => rfl
      | cons y L2 =>
        have := (he (y.c, y.k)).2 (by simp [mks])
        rw [e1] at this
        simp [mks] at this
    rw [e1, e2]
  | n + 1, L1, L2, hn, h1, h2, he => by
    have hne : L1 ≠ [] := by intro q; rw [q] at hn; simp at hn
    obtain ⟨m, hm, hmax⟩ := max_mark L1 hne
    obtain ⟨A, R, rfl⟩ := List.append_of_mem hm
    have hm2 := (he (m.c, m.k)).1 (List.mem_map.2 ⟨m, hm, rfl⟩)
    obtain ⟨m', hm', em⟩ := List.mem_map.1 hm2
    simp only [Prod.mk.injEq] at em
    obtain ⟨A', R', rfl⟩ := List.append_of_mem hm'
    have hmax' : ∀ z ∈ A' ++ m' :: R', ¬ abvM z m' := fun z hz q => by
      obtain ⟨z1, hz1, ez⟩ := List.mem_map.1 ((he (z.c, z.k)).2 (List.mem_map.2 ⟨z, hz, rfl⟩))
      simp only [Prod.mk.injEq] at ez
      refine hmax z1 hz1 ?_
      unfold abvM at q ⊢
      omega
    obtain ⟨r1, l1, l2⟩ := h1.out hmax
    obtain ⟨r2, l3, l4⟩ := h2.out hmax'
    rw [em.1, em.2] at l3 l4
    have nd1 : (m.c, m.k) ∉ mks (A ++ R) := by
      intro q
      obtain ⟨z, hz, ez⟩ := List.mem_map.1 q
      simp only [Prod.mk.injEq] at ez
      obtain ⟨a1, a2⟩ := apart_mem h1.apart
      rcases List.mem_append.1 hz with hz | hz
      · exact a1 z hz ez
      · exact a2 z hz ⟨ez.1.symm, ez.2.symm⟩
    have nd2 : (m.c, m.k) ∉ mks (A' ++ R') := by
      intro q
      obtain ⟨z, hz, ez⟩ := List.mem_map.1 q
      simp only [Prod.mk.injEq] at ez
      obtain ⟨a1, a2⟩ := apart_mem h2.apart
      rcases List.mem_append.1 hz with hz | hz
      · exact a1 z hz ⟨ez.1.trans em.1.symm, ez.2.trans em.2.symm⟩
      · exact a2 z hz ⟨em.1.trans ez.1.symm, em.2.trans ez.2.symm⟩
    have he' : ∀ x, x ∈ mks (A ++ R) ↔ x ∈ mks (A' ++ R') := by
      intro x
      have hx := he x
      simp only [mks_append, List.mem_append] at hx nd1 nd2 ⊢
      have c1 : mks (m :: R) = (m.c, m.k) :: mks R := rfl
      have c2 : mks (m' :: R') = (m.c, m.k) :: mks R' := by unfold mks; rw [List.map_cons, em.1, em.2]
      rw [c1, c2, List.mem_cons, List.mem_cons] at hx
      by_cases q : x = (m.c, m.k)
      · rw [q]
        exact ⟨fun z => (nd1 z).elim, fun z => (nd2 z).elim⟩
      · constructor
        · intro z
          rcases hx.1 (z.imp id .inr) with z | z | z
          · exact .inl z
          · exact (q z).elim
          · exact .inr z
        · intro z
          rcases hx.2 (z.imp id .inr) with z | z | z
          · exact .inl z
          · exact (q z).elim
          · exact .inr z
    have ih := rga_one n (by simp at hn ⊢; omega) r1 r2 he'
    have hAA : mks A = mks A' ∧ mks R = mks R' := by
      have hp1 : ∀ y ∈ A, 0 < y.c := fun y hy => h1.pos y (by simp [hy])
      have hp2 : ∀ y ∈ A', 0 < y.c := fun y hy => h2.pos y (by simp [hy])
      rw [mks_append, mks_append] at ih
      rcases snoc_cases A with rfl | ⟨B, p, rfl⟩
      · have : A' = [] := lc_zero hp2 (by rw [l3, ← l1]; rfl)
        rw [this] at ih ⊢
        exact ⟨rfl, ih⟩
      · rcases snoc_cases A' with rfl | ⟨B', p', rfl⟩
        · have : B ++ [p] = [] := lc_zero hp1 (by rw [l1, ← l3]; rfl)
          simp at this
        · obtain ⟨a1, a2, -, -⟩ := last_snoc B p
          obtain ⟨b1, b2, -, -⟩ := last_snoc B' p'
          rw [a1] at l1
          rw [a2] at l2
          rw [b1] at l3
          rw [b2] at l4
          have ep : (p.c, p.k) = (p'.c, p'.k) := by rw [l1, l2, l3, l4]
          have c1 : mks (B ++ [p]) = mks B ++ [(p.c, p.k)] := by simp [mks]
          have c2 : mks (B' ++ [p']) = mks B' ++ [(p.c, p.k)] := by rw [ep]; simp [mks]
          have q1 : (p.c, p.k) ∉ mks B := by
            intro q
            obtain ⟨z, hz, ez⟩ := List.mem_map.1 q
            simp only [Prod.mk.injEq] at ez
            have := r1.apart
            rw [List.append_assoc] at this
            exact (apart_mem this).1 z hz ez
          have q2 : (p.c, p.k) ∉ mks B' := by
            intro q
            rw [ep] at q
            obtain ⟨z, hz, ez⟩ := List.mem_map.1 q
            simp only [Prod.mk.injEq] at ez
            have := r2.apart
            rw [List.append_assoc] at this
            exact (apart_mem this).1 z hz ez
          rw [c1, c2, List.append_assoc, List.append_assoc] at ih
          obtain ⟨e1, e2⟩ := cut_one q1 q2 ih
          exact ⟨by rw [c1, c2, e1], e2⟩
    have c1 : mks (m :: R) = (m.c, m.k) :: mks R := rfl
    have c2 : mks (m' :: R') = (m.c, m.k) :: mks R' := by unfold mks; rw [List.map_cons, em.1, em.2]
    rw [mks_append, mks_append, c1, c2, hAA.1, hAA.2]

/-- The target of an element stands in its line. -/
theorem Rga.par {P : Int → Int → Int × Int} {L : List El} (h : Rga P L) {y : El} (hy : y ∈ L) (hp : 0 < (P y.c y.k).1) : P y.c y.k ∈ mks L := by
  obtain ⟨A, R, rfl⟩ := List.append_of_mem hy
  obtain ⟨A1, A2, g0, g1, g2, -⟩ := h.gap A y R rfl
  rcases snoc_cases A1 with rfl | ⟨B, p, rfl⟩
  · have : (0 : Int) = (P y.c y.k).1 := g1
    omega
  · obtain ⟨l1, l2, -, -⟩ := last_snoc B p
    rw [l1] at g1
    rw [l2] at g2
    refine List.mem_map.2 ⟨p, by rw [g0]; simp, ?_⟩
    show (p.c, p.k) = P y.c y.k
    rw [g1, g2]

open Classical in
/-- What two lines both have stands in one order. -/
theorem rga_common {P : Int → Int → Int × Int} {L1 L2 : List El} (h1 : Rga P L1) (h2 : Rga P L2) : mks (L1.filter (fun z => decide ((z.c, z.k) ∈ mks L2))) = mks (L2.filter (fun z => decide ((z.c, z.k) ∈ mks L1))) := by
  have key : ∀ {L L' : List El}, Rga P L → Rga P L' → Rga P (L.filter (fun z => decide ((z.c, z.k) ∈ mks L'))) := by
    intro L L' h h'
    refine h.filter _ (fun y hy hc z hz e1 e2 => ?_)
    rw [decide_eq_true_eq] at hc ⊢
    obtain ⟨y', hy', ey⟩ := List.mem_map.1 hc
    simp only [Prod.mk.injEq] at ey
    have hz0 := h.pos z hz
    have := h'.par hy' (by rw [ey.1, ey.2, ← e1]; exact hz0)
    rw [ey.1, ey.2] at this
    rw [e1, e2]
    exact this
  refine rga_one _ rfl (key h1 h2) (key h2 h1) (fun m => ?_)
  have mem : ∀ {L L' : List El}, m ∈ mks (L.filter (fun z => decide ((z.c, z.k) ∈ mks L'))) ↔ m ∈ mks L ∧ m ∈ mks L' := by
    intro L L'
    constructor
    · intro q
      obtain ⟨z, hz, rfl⟩ := List.mem_map.1 q
      obtain ⟨hz1, hz2⟩ := List.mem_filter.1 hz
      exact ⟨List.mem_map.2 ⟨z, hz1, rfl⟩, by simpa using hz2⟩
    · rintro ⟨q1, q2⟩
      obtain ⟨z, hz, rfl⟩ := List.mem_map.1 q1
      exact List.mem_map.2 ⟨z, List.mem_filter.2 ⟨hz, by simpa using q2⟩, rfl⟩
  rw [mem, mem]
  exact ⟨fun q => ⟨q.2, q.1⟩, fun q => ⟨q.2, q.1⟩⟩

end Go.Proofs.YtachmkhbbbmioaaGreat

namespace Go.Proofs.YtachmkhbbbmioaaGreat
open Go.RowKit Go.Shelf

theorem Rga.congr {P P' : Int → Int → Int × Int} {L : List El} (h : Rga P L) (e : ∀ y ∈ L, P' y.c y.k = P y.c y.k) : Rga P' L :=
  ⟨h.apart, fun y hy => by rw [e y hy]; exact h.low y hy, h.pos, fun A y R hL => by
    obtain ⟨A1, A2, g0, g1, g2, g3⟩ := h.gap A y R hL
    have := e y (by rw [hL]; simp)
    exact ⟨A1, A2, g0, by rw [this]; exact g1, by rw [this]; exact g2, g3⟩⟩

/-- The line of a copy is that of the operations which were applied to it. -/
structure LineG (P : Int → Int → Int × Int) (S : CS) : Prop where
  rga : Rga P S.L
  els : ∀ e ∈ S.L, ∃ x ∈ S.ops, x.kind = 0 ∧ x.c = e.c ∧ x.o = e.k ∧ x.r = e.r
  ops : ∀ x ∈ S.ops, x.kind = 0 → ∃ e ∈ S.L, e.c = x.c ∧ e.k = x.o ∧ e.r = x.r
  del : ∀ e ∈ S.L, e.d = true ↔ ∃ x ∈ S.ops, x.kind = 1 ∧ x.tc = e.c ∧ x.tk = e.k
  tgt : ∀ x ∈ S.ops, x.kind = 1 → ∃ e ∈ S.L, e.c = x.tc ∧ e.k = x.tk

theorem mks_gone {A R : List El} {y : El} : mks (A ++ gone y :: R) = mks (A ++ y :: R) := by simp [mks, gone]

theorem lineG_apply {P : Int → Int → Int × Int} {S : CS} (hI : Inv S) (h : LineG P S) {x : OpR} (h8 : Ok8 S.n x) (hr : RdyS S x) (hP : x.kind = 0 → P x.c x.o = (x.tc, x.tk)) : LineG P (applyS S x) := by
  have h0 : ∀ y ∈ S.L, 0 < y.c := fun y hy => (hI.good.mark y hy).1
  have hc := h8.c
  rcases (show x.kind = 0 ∨ x.kind = 1 by have := h8.kind; omega) with hk | hk
  · obtain ⟨A, R, hs, hL, e1, e2, e3, -⟩ := cut_ins h8 hk hr.2.2.1 h0 hI.apart
    have hf : ∀ z ∈ A ++ R, ¬ (z.c = (x.el hs).c ∧ z.k = (x.el hs).k) := by
      rw [← hL]
      rcases hr.2.2.2 with q | q
      · omega
      · exact (hasM_false.1 q).2
    have hrga := h.rga
    rw [hL] at hrga
    have hlow : lc A < x.c := by
      rw [e1]
      rcases h8.tgt with t | t <;> omega
    have hlay := hrga.lay (e := x.el hs) (by show P x.c x.o = _; rw [hP hk, e1, e2]) hlow (by show 0 < x.c; omega) hf
    have hmem : ∀ e, e ∈ A ++ behind (x.el hs) R ↔ e = x.el hs ∨ e ∈ S.L := by
      intro e
      rw [List.mem_append, behind_mem, hL, List.mem_append]
      constructor
      · rintro (q | q | q)
        · exact .inr (.inl q)
        · exact .inl q
        · exact .inr (.inr q)
      · rintro (q | q | q)
        · exact .inr (.inl q)
        · exact .inl q
        · exact .inr (.inr q)
    have hLe : (applyS S x).L = A ++ behind (x.el hs) R := e3
    refine ⟨by rw [hLe]; exact hlay, fun e he => ?_, fun z hz hzk => ?_, fun e he => ?_, fun z hz hzk => ?_⟩
    · rw [hLe, hmem] at he
      rcases he with rfl | he
      · exact ⟨x, by simp [applyS], hk, rfl, rfl, rfl⟩
      · obtain ⟨z, hz, q⟩ := h.els e he
        exact ⟨z, List.mem_cons_of_mem _ hz, q⟩
    · rw [hLe]
      rcases List.mem_cons.1 hz with rfl | hz
      · exact ⟨z.el hs, (hmem _).2 (.inl rfl), rfl, rfl, rfl⟩
      · obtain ⟨e, he, q⟩ := h.ops z hz hzk
        exact ⟨e, (hmem _).2 (.inr he), q⟩
    · rw [hLe, hmem] at he
      have hx : ¬ x.kind = 1 := by omega
      rcases he with rfl | he
      · constructor
        · intro q; cases q
        · rintro ⟨z, hz, z1, z2, z3⟩
          rcases List.mem_cons.1 hz with rfl | hz
          · exact (hx z1).elim
          · obtain ⟨e, he, q⟩ := h.tgt z hz z1
            rw [hL] at he
            exact (hf e he ⟨by rw [q.1, z2], by rw [q.2, z3]⟩).elim
      · rw [h.del e he]
        constructor
        · rintro ⟨z, hz, q⟩; exact ⟨z, List.mem_cons_of_mem _ hz, q⟩
        · rintro ⟨z, hz, q⟩
          rcases List.mem_cons.1 hz with rfl | hz
          · exact (hx q.1).elim
          · exact ⟨z, hz, q⟩
    · rw [hLe]
      rcases List.mem_cons.1 hz with rfl | hz
      · omega
      · obtain ⟨e, he, q⟩ := h.tgt z hz hzk
        exact ⟨e, (hmem _).2 (.inr he), q⟩
  · obtain ⟨A, R, y, hL, e1, e2, e3, -⟩ := cut_del h8 hk hr.2.2.1 hI.apart
    have hLe : (applyS S x).L = A ++ gone y :: R := e3
    have hx : ¬ x.kind = 0 := by omega
    have ha := hI.apart
    rw [hL] at ha
    obtain ⟨a1, a2⟩ := apart_mem ha
    have hback : ∀ e ∈ A ++ gone y :: R, ∃ e' ∈ S.L, e'.c = e.c ∧ e'.k = e.k ∧ e'.r = e.r ∧ (e = gone y ∨ (e' = e ∧ ¬ (e.c = y.c ∧ e.k = y.k))) := by
      intro e he
      rw [hL]
      rcases List.mem_append.1 he with he | he
      · exact ⟨e, by simp [he], rfl, rfl, rfl, .inr ⟨rfl, a1 e he⟩⟩
      · rcases List.mem_cons.1 he with rfl | he
        · exact ⟨y, by simp, rfl, rfl, rfl, .inl rfl⟩
        · exact ⟨e, by simp [he], rfl, rfl, rfl, .inr ⟨rfl, fun q => a2 e he ⟨q.1.symm, q.2.symm⟩⟩⟩
    have hon : ∀ e ∈ S.L, ∃ e' ∈ A ++ gone y :: R, e'.c = e.c ∧ e'.k = e.k ∧ e'.r = e.r := by
      intro e he
      rw [hL] at he
      rcases List.mem_append.1 he with he | he
      · exact ⟨e, by simp [he], rfl, rfl, rfl⟩
      · rcases List.mem_cons.1 he with rfl | he
        · exact ⟨gone e, by simp, rfl, rfl, rfl⟩
        · exact ⟨e, by simp [he], rfl, rfl, rfl⟩
    refine ⟨by rw [hLe]; exact h.rga.same (by rw [mks_gone, hL]), fun e he => ?_, fun z hz hzk => ?_, fun e he => ?_, fun z hz hzk => ?_⟩
    · rw [hLe] at he
      obtain ⟨e', he', q1, q2, q3, -⟩ := hback e he
      obtain ⟨z, hz, z1, z2, z3, z4⟩ := h.els e' he'
      exact ⟨z, List.mem_cons_of_mem _ hz, z1, by rw [z2, q1], by rw [z3, q2], by rw [z4, q3]⟩
    · rcases List.mem_cons.1 hz with rfl | hz
      · exact (hx hzk).elim
      · obtain ⟨e, he, q1, q2, q3⟩ := h.ops z hz hzk
        rw [hLe]
        rw [hL] at he
        rcases List.mem_append.1 he with he | he
        · exact ⟨e, by simp [he], q1, q2, q3⟩
        · rcases List.mem_cons.1 he with rfl | he
          · exact ⟨gone e, by simp, q1, q2, q3⟩
          · exact ⟨e, by simp [he], q1, q2, q3⟩
    · rw [hLe] at he
      obtain ⟨e', he', q1, q2, -, q⟩ := hback e he
      rcases q with rfl | ⟨rfl, q⟩
      · exact ⟨fun _ => ⟨x, by simp [applyS], hk, e1.symm, e2.symm⟩, fun _ => rfl⟩
      · rw [h.del e' he']
        constructor
        · rintro ⟨z, hz, w⟩; exact ⟨z, List.mem_cons_of_mem _ hz, w⟩
        · rintro ⟨z, hz, w⟩
          rcases List.mem_cons.1 hz with rfl | hz
          · exact (q ⟨by rw [← w.2.1, e1], by rw [← w.2.2, e2]⟩).elim
          · exact ⟨z, hz, w⟩
    · rw [hLe]
      rcases List.mem_cons.1 hz with rfl | hz
      · obtain ⟨e', he', q1, q2, -⟩ := hon y (by rw [hL]; simp)
        exact ⟨e', he', by rw [q1, e1], by rw [q2, e2]⟩
      · obtain ⟨e, he, q⟩ := h.tgt z hz hzk
        obtain ⟨e', he', q1, q2, -⟩ := hon e he
        exact ⟨e', he', by rw [q1, q.1], by rw [q2, q.2]⟩

/-- What is told of and what waits is all of G. -/
structure Of (G : OpR → Prop) (S : CS) : Prop where
  ops : ∀ x ∈ S.ops, G x
  wt : ∀ x ∈ S.wt, G x

theorem Of.apply {G : OpR → Prop} {S : CS} (h : Of G S) {x : OpR} (hx : G x) : Of G (applyS S x) := ⟨fun z hz => by
  rcases List.mem_cons.1 hz with rfl | hz
  · exact hx
  · exact h.ops z hz, h.wt⟩

theorem Of.rem {G : OpR → Prop} {S : CS} (h : Of G S) (x : OpR) : Of G (remS S x) := ⟨h.ops, fun z hz => h.wt z (List.mem_filter.1 hz).1⟩

theorem LineG.rem {P : Int → Int → Int × Int} {S : CS} (h : LineG P S) (x : OpR) : LineG P (remS S x) := ⟨h.rga, h.els, h.ops, h.del, h.tgt⟩

theorem lineG_drain {P : Int → Int → Int × Int} {G : OpR → Prop} (hG : ∀ x, G x → x.kind = 0 → P x.c x.o = (x.tc, x.tk)) : ∀ (f : Nat) {S : CS}, Inv S → LineG P S → Of G S → LineG P (drainS f S) ∧ Of G (drainS f S)
  | 0, S, _, h, ho => ⟨h, ho⟩
  | f + 1, S, hI, h, ho => by
    unfold drainS
    cases hn : nextS S with
    | none => exact ⟨h, ho⟩
    | some x =>
      have hx := nextS_is hn
      have hg := ho.wt x hx.1
      exact lineG_drain hG f (inv_step hI hx) (lineG_apply (inv_rem hI x) (h.rem x) (hI.wo.ok x hx.1) hx.2.1 (hG x hg)) ((ho.rem x).apply hg)

theorem lineG_takes {P : Int → Int → Int × Int} {G : OpR → Prop} (hG : ∀ x, G x → x.kind = 0 → P x.c x.o = (x.tc, x.tk)) {S : CS} (hI : Inv S) (h : LineG P S) (ho : Of G S) {x : OpR} (h8 : Ok8 S.n x) (hx : G x) : LineG P (takesS S x) ∧ Of G (takesS S x) := by
  unfold takesS
  split
  · exact ⟨h, ho⟩
  · split
    · rename_i hr
      exact lineG_drain hG _ (inv_apply hI h8 hr) (lineG_apply hI h h8 hr (hG x hx)) (ho.apply hx)
    · split
      · refine ⟨⟨h.rga, h.els, h.ops, h.del, h.tgt⟩, ⟨ho.ops, fun z hz => ?_⟩⟩
        rcases List.mem_append.1 hz with hz | hz
        · exact ho.wt z hz
        · rw [List.mem_singleton.1 hz]; exact hx
      · exact ⟨h, ho⟩

theorem lineG_takesAll {P : Int → Int → Int × Int} {G : OpR → Prop} (hG : ∀ x, G x → x.kind = 0 → P x.c x.o = (x.tc, x.tk)) : ∀ (l : List OpR) {S : CS}, Inv S → LineG P S → Of G S → (∀ x ∈ l, Ok8 S.n x ∧ G x) → LineG P (takesAll S l) ∧ Of G (takesAll S l)
  | [], S, _, h, ho, _ => ⟨h, ho⟩
  | x :: l, S, hI, h, ho, hl => by
    obtain ⟨h1, h2⟩ := lineG_takes hG hI h ho (hl x (by simp)).1 (hl x (by simp)).2
    exact lineG_takesAll hG l (inv_takes hI (hl x (by simp)).1) h1 h2 (fun y hy => by rw [(takes_n S x).1]; exact hl y (by simp [hy]))

/-- Two copies to which the same was applied have the same line. -/
theorem line_same {P : Int → Int → Int × Int} {S T : CS} (hS : LineG P S) (hT : LineG P T) (he : ∀ x, x ∈ S.ops ↔ x ∈ T.ops) (hu : ∀ x ∈ S.ops, ∀ y ∈ S.ops, x.kind = 0 → y.kind = 0 → x.c = y.c → x.o = y.o → x = y) : S.L.map (fun e => (e.c, e.k, e.r, e.d)) = T.L.map (fun e => (e.c, e.k, e.r, e.d)) := by
  have hm : mks S.L = mks T.L := by
    refine rga_one _ rfl hS.rga hT.rga (fun m => ?_)
    constructor
    · intro q
      obtain ⟨e, h1, rfl⟩ := List.mem_map.1 q
      obtain ⟨x, hx, k, c1, c2, -⟩ := hS.els e h1
      obtain ⟨e', h2, d1, d2, -⟩ := hT.ops x ((he x).1 hx) k
      exact List.mem_map.2 ⟨e', h2, by rw [d1, d2, c1, c2]⟩
    · intro q
      obtain ⟨e, h1, rfl⟩ := List.mem_map.1 q
      obtain ⟨x, hx, k, c1, c2, -⟩ := hT.els e h1
      obtain ⟨e', h2, d1, d2, -⟩ := hS.ops x ((he x).2 hx) k
      exact List.mem_map.2 ⟨e', h2, by rw [d1, d2, c1, c2]⟩
  have hlen : S.L.length = T.L.length := by have := congrArg List.length hm; simpa [mks] using this
  apply List.ext_getElem (by simp [hlen])
  intro i h1 h2
  simp only [List.length_map] at h1 h2
  have hmi : (S.L[i].c, S.L[i].k) = (T.L[i].c, T.L[i].k) := by
    have h3 : (mks S.L)[i]? = (mks T.L)[i]? := by rw [hm]
    simp only [mks, List.getElem?_map, List.getElem?_eq_getElem h1, List.getElem?_eq_getElem h2, Option.map_some, Option.some.injEq] at h3
    exact h3
  simp only [Prod.mk.injEq] at hmi
  obtain ⟨x, hx, k, c1, c2, c3⟩ := hS.els S.L[i] (List.getElem_mem h1)
  obtain ⟨y, hy, k', d1, d2, d3⟩ := hT.els T.L[i] (List.getElem_mem h2)
  have hxy : x = y := hu x hx y ((he y).2 hy) k k' (by rw [c1, d1, hmi.1]) (by rw [c2, d2, hmi.2])
  have hd : S.L[i].d = T.L[i].d := by
    have a1 := hS.del S.L[i] (List.getElem_mem h1)
    have a2 := hT.del T.L[i] (List.getElem_mem h2)
    have : S.L[i].d = true ↔ T.L[i].d = true := by
      rw [a1, a2]
      constructor
      · rintro ⟨z, hz, z1, z2, z3⟩; exact ⟨z, (he z).1 hz, z1, by rw [z2, hmi.1], by rw [z3, hmi.2]⟩
      · rintro ⟨z, hz, z1, z2, z3⟩; exact ⟨z, (he z).2 hz, z1, by rw [z2, hmi.1], by rw [z3, hmi.2]⟩
    cases hq : S.L[i].d <;> cases hq2 : T.L[i].d <;> simp_all
  simp only [List.getElem_map, Prod.mk.injEq]
  exact ⟨hmi.1, hmi.2, by rw [← c3, ← d3, hxy], hd⟩

end Go.Proofs.YtachmkhbbbmioaaGreat

namespace Go.Proofs.YtachmkhbbbmioaaGreat
open Go.RowKit Go.Shelf

def sumTo : Nat → (Nat → Int) → Int
  | 0, _ => 0
  | n + 1, f => sumTo n f + f n

theorem sumTo_congr {f g : Nat → Int} : ∀ n, (∀ i, i < n → f i = g i) → sumTo n f = sumTo n g
  | 0, _ => rfl
  | n + 1, h => by simp only [sumTo]; rw [sumTo_congr n (fun i hi => h i (by omega)), h n (by omega)]

theorem sumTo_up {f g : Nat → Int} {i : Nat} : ∀ n, i < n → (∀ j, j < n → j ≠ i → f j = g j) → f i = g i + 1 → sumTo n f = sumTo n g + 1
  | 0, h, _, _ => by omega
  | n + 1, h, h1, h2 => by
    simp only [sumTo]
    by_cases q : i = n
    · subst q; rw [sumTo_congr i (fun j hj => h1 j (by omega) (by omega)), h2]; omega
    · rw [sumTo_up n (by omega) (fun j hj => h1 j (by omega)) h2, h1 n (by omega) (by omega)]; omega

theorem sumTo_le {f g : Nat → Int} : ∀ n, (∀ i, i < n → f i ≤ g i) → sumTo n f ≤ sumTo n g
  | 0, _ => Int.le_refl _
  | n + 1, h => by
    have h1 := sumTo_le n (fun i hi => h i (by omega))
    have h2 := h n (by omega)
    simp only [sumTo]; omega

theorem sumTo_lt {f g : Nat → Int} {i : Nat} : ∀ n, i < n → (∀ i, i < n → f i ≤ g i) → f i < g i → sumTo n f < sumTo n g
  | 0, h, _, _ => by omega
  | n + 1, h, h1, h2 => by
    simp only [sumTo]
    by_cases q : i = n
    · subst q
      have := sumTo_le i (fun j hj => h1 j (by omega))
      omega
    · have := sumTo_lt n (show i < n by omega) (fun j hj => h1 j (by omega)) h2
      have := h1 n (by omega)
      omega

theorem sumTo_zero {f : Nat → Int} (n : Nat) (h : ∀ i, i < n → 0 ≤ f i) : 0 ≤ sumTo n f := by
  have : sumTo n (fun _ => 0) = 0 := by
    clear h
    induction n with
    | zero => rfl
    | succ n ih => simp only [sumTo]; rw [ih]; rfl
  rw [← this]
  exact sumTo_le n h

theorem sumTo_one {f : Nat → Int} {i : Nat} : ∀ n, i < n → (∀ i, i < n → 0 ≤ f i) → f i ≤ sumTo n f
  | 0, h, _ => by omega
  | n + 1, h, h1 => by
    simp only [sumTo]
    by_cases q : i = n
    · subst q
      have := sumTo_zero i (fun j hj => h1 j (by omega))
      omega
    · have := sumTo_one n (show i < n by omega) (fun j hj => h1 j (by omega))
      have := h1 n (by omega)
      omega

def updC (C : Nat → CS) (i : Nat) (S : CS) : Nat → CS := fun j => if j = i then S else C j

theorem updC_same (C : Nat → CS) (i : Nat) (S : CS) : updC C i S i = S := by simp [updC]
theorem updC_other (C : Nat → CS) {i j : Nat} (S : CS) (h : j ≠ i) : updC C i S j = C j := by simp [updC, h]
theorem updC_updC (C : Nat → CS) (i : Nat) (S T : CS) : updC (updC C i S) i T = updC C i T := by
  funext j; unfold updC; split <;> rfl
theorem updC_self (C : Nat → CS) (i : Nat) : updC C i (C i) = C := by
  funext j; unfold updC; split
  · rename_i h; rw [h]
  · rfl

/-- What was made: its origin has it. -/
def Gm (n : Nat) (C : Nat → CS) (x : OpR) : Prop := Ok8 n x ∧ x ∈ (C (x.o.toNat - 1)).ops

/-- Several copies, and all that they know of. K: so many operations were made. -/
structure NetB (n : Nat) (C : Nat → CS) (K : Int) : Prop where
  n1 : 1 ≤ n
  n8 : n ≤ 8
  cn : ∀ i, i < n → (C i).n = n
  cs : ∀ i, i < n → (C i).s = i + 1
  inv : ∀ i, i < n → Inv (C i)
  of : ∀ i, i < n → Of (Gm n C) (C i)
  z : ∀ i, i < n → ∀ j, n ≤ j → (C i).cl j = 0
  cg : ∀ i, i < n → ∀ x ∈ (C i).ops, x.c ≤ (C i).g
  gk : ∀ i, i < n → (C i).g ≤ K
  sum : sumTo n (fun i => (C i).cl i) = K
  line : ∃ P : Int → Int → Int × Int, (∀ x, Gm n C x → x.kind = 0 → P x.c x.o = (x.tc, x.tk)) ∧ ∀ i, i < n → LineG P (C i)
  rise : ∀ x y, Gm n C x → Gm n C y → x.o = y.o → x.num < y.num → x.c < y.c
  past : ∀ x, Gm n C x → (x.tc = 0 ∧ x.tk = 0) ∨ ∃ y, Gm n C y ∧ y.kind = 0 ∧ y.c = x.tc ∧ y.o = x.tk ∧ y.num ≤ x.q (y.o.toNat - 1)
  pastc : ∀ x y, Gm n C x → Gm n C y → y.num ≤ x.q (y.o.toNat - 1) → y.c < x.c
  pastm : ∀ x, Gm n C x → ∀ i, i < n → x.q i ≤ (C i).cl i
  wtn : ∀ i, i < n → ∀ x ∈ (C i).wt, (C i).cl (x.o.toNat - 1) < x.num

theorem Gm.lt {n : Nat} {C : Nat → CS} {x : OpR} (h : Gm n C x) : x.o.toNat - 1 < n := by have := h.1.o; omega

theorem NetB.one {n : Nat} {C : Nat → CS} {K : Int} (h : NetB n C K) {x y : OpR} (hx : Gm n C x) (hy : Gm n C y) (e1 : x.o = y.o) (e2 : x.num = y.num) : x = y := by
  have h1 := hx.2
  rw [e1] at h1
  exact one_name (h.inv _ hy.lt).ops.one h1 hy.2 ⟨e1, e2⟩

theorem NetB.mark {n : Nat} {C : Nat → CS} {K : Int} (h : NetB n C K) {x y : OpR} (hx : Gm n C x) (hy : Gm n C y) (e1 : x.o = y.o) (e2 : x.c = y.c) : x = y := by
  by_cases q : x.num = y.num
  · exact h.one hx hy e1 q
  · rcases (show x.num < y.num ∨ y.num < x.num by omega) with q | q
    · have := h.rise x y hx hy e1 q; omega
    · have := h.rise y x hy hx e1.symm q; omega

/-- What a clock counts was applied. -/
theorem NetB.has {n : Nat} {C : Nat → CS} {K : Int} (h : NetB n C K) {i : Nat} (hi : i < n) {x : OpR} (hx : Gm n C x) (hc : x.num ≤ (C i).cl (x.o.toNat - 1)) : x ∈ (C i).ops := by
  have ho := hx.1.o
  obtain ⟨y, hy, e1, e2⟩ := (h.inv i hi).ops.all (x.o.toNat - 1) (by rw [h.cn i hi]; exact hx.lt) x.num hx.1.num.1 hc
  have : y = x := h.one ((h.of i hi).ops y hy) hx (by omega) e2
  rw [← this]; exact hy

theorem NetB.in_cl {n : Nat} {C : Nat → CS} {K : Int} (h : NetB n C K) {i : Nat} (hi : i < n) {x : OpR} (hx : x ∈ (C i).ops) : x.num ≤ (C i).cl (x.o.toNat - 1) := ((h.inv i hi).ops.ok x hx).2

theorem NetB.cl0 {n : Nat} {C : Nat → CS} {K : Int} (h : NetB n C K) {i : Nat} (hi : i < n) (j : Nat) : 0 ≤ (C i).cl j := by
  by_cases q : j < 8
  · exact ((h.inv i hi).good.cl j q).1
  · rw [h.z i hi j (by have := h.n8; omega)]; omega

/-- No clock counts more than was made. -/
theorem NetB.cl_le {n : Nat} {C : Nat → CS} {K : Int} (h : NetB n C K) {i j : Nat} (hi : i < n) (hj : j < n) : (C i).cl j ≤ (C j).cl j := by
  by_cases q : (C i).cl j = 0
  · rw [q]; exact h.cl0 hj j
  · have h0 := h.cl0 hi j
    obtain ⟨y, hy, e1, e2⟩ := (h.inv i hi).ops.all j (by rw [h.cn i hi]; exact hj) ((C i).cl j) (by omega) (Int.le_refl _)
    have hg := (h.of i hi).ops y hy
    have e3 : y.o.toNat - 1 = j := by omega
    have h3 := hg.2
    rw [e3] at h3
    have := h.in_cl hj h3
    rw [e3] at this
    omega

/-- P11, of what was made: whose clock is counted is ready. -/
theorem NetB.rdy {n : Nat} {C : Nat → CS} {K : Int} (h : NetB n C K) {i : Nat} (hi : i < n) {x : OpR} (hx : Gm n C x) (hn : x.num = (C i).cl (x.o.toNat - 1) + 1) (hq : ∀ j, j < n → x.q j ≤ (C i).cl j) : RdyS (C i) x := by
  obtain ⟨P, hP, hL⟩ := h.line
  refine ⟨hn, fun j _ => ?_, ?_, ?_⟩
  · by_cases q : j < n
    · exact hq j q
    · rw [hx.1.q0 j (by omega), h.z i hi j (by omega)]; omega
  · rw [hasM_iff]
    rcases h.past x hx with q | ⟨y, hy, y1, y2, y3, y4⟩
    · exact .inl q
    · have := h.has hi hy (Int.le_trans y4 (hq _ hy.lt))
      obtain ⟨e, he, e1, e2, -⟩ := (hL i hi).ops y this y1
      exact .inr ⟨e, he, by rw [e1, y2], by rw [e2, y3]⟩
  · by_cases k : x.kind = 1
    · exact .inl k
    · right
      rw [hasM_false]
      refine ⟨fun q => by have := hx.1.c; omega, fun e he q => ?_⟩
      obtain ⟨y, hy, y1, y2, y3, -⟩ := (hL i hi).els e he
      have : y = x := h.mark ((h.of i hi).ops y hy) hx (by rw [y3, q.2]) (by rw [y2, q.1])
      rw [this] at hy
      have := h.in_cl hi hy
      omega

def apW (S : CS) (x : OpR) (wt : List OpR) : CS := { applyS S x with wt := wt }

theorem LineG.apW {P : Int → Int → Int × Int} {S : CS} {x : OpR} (h : LineG P (applyS S x)) (wt : List OpR) : LineG P (apW S x wt) := ⟨h.rga, h.els, h.ops, h.del, h.tgt⟩

/-- Something that was made is applied. -/
theorem NetB.apply {n : Nat} {C : Nat → CS} {K : Int} (h : NetB n C K) {i : Nat} (hi : i < n) {x : OpR} (hx : Gm n C x) (hr : RdyS (C i) x) {wt : List OpR} (hw : ∀ y ∈ wt, y ∈ (C i).wt) (hd : ∀ y ∈ wt, ¬ (y.o = x.o ∧ y.num = x.num)) (hI : Inv (apW (C i) x wt)) :
    (∀ z, Gm n (updC C i (apW (C i) x wt)) z ↔ Gm n C z) ∧ NetB n (updC C i (apW (C i) x wt)) K := by
  have ho := hx.1.o
  have hoi : x.o.toNat - 1 ≠ i := fun q => by
    have h1 := hx.2
    rw [q] at h1
    have := h.in_cl hi h1
    have := hr.1
    omega
  have hG : ∀ z, Gm n (updC C i (apW (C i) x wt)) z ↔ Gm n C z := fun z => by
    unfold Gm
    by_cases q : z.o.toNat - 1 = i
    · rw [q, updC_same]
      constructor
      · rintro ⟨z1, z2⟩
        rcases List.mem_cons.1 z2 with rfl | z2
        · exact (hoi q).elim
        · exact ⟨z1, z2⟩
      · rintro ⟨z1, z2⟩
        exact ⟨z1, List.mem_cons_of_mem _ z2⟩
    · rw [updC_other C _ q]
  have hcl : ∀ j k, (updC C i (apW (C i) x wt) j).cl k = if j = i ∧ k = x.o.toNat - 1 then (C i).cl k + 1 else (C j).cl k := fun j k => by
    by_cases q : j = i
    · rw [q, updC_same]
      show bump (C i).cl (x.o.toNat - 1) k = _
      unfold bump
      by_cases q2 : k = x.o.toNat - 1 <;> simp [q2]
    · rw [updC_other C _ q]; simp [q]
  have hge : ∀ j k, (C j).cl k ≤ (updC C i (apW (C i) x wt) j).cl k := fun j k => by
    rw [hcl]
    split
    · rename_i q; rw [q.1]; omega
    · exact Int.le_refl _
  refine ⟨hG, ⟨h.n1, h.n8, fun j hj => ?_, fun j hj => ?_, fun j hj => ?_, fun j hj => ?_, fun j hj k hk => ?_, fun j hj => ?_, fun j hj => ?_, ?_, ?_, ?_, ?_, ?_, ?_, ?_⟩⟩
  · by_cases q : j = i
    · rw [q, updC_same]; exact h.cn i hi
    · rw [updC_other C _ q]; exact h.cn j hj
  · by_cases q : j = i
    · rw [q, updC_same]; exact h.cs i hi
    · rw [updC_other C _ q]; exact h.cs j hj
  · by_cases q : j = i
    · rw [q, updC_same]; exact hI
    · rw [updC_other C _ q]; exact h.inv j hj
  · refine ⟨fun z hz => (hG z).2 ?_, fun z hz => (hG z).2 ?_⟩
    · by_cases q : j = i
      · rw [q, updC_same] at hz
        rcases List.mem_cons.1 hz with rfl | hz
        · exact hx
        · exact (h.of i hi).ops z hz
      · rw [updC_other C _ q] at hz; exact (h.of j hj).ops z hz
    · by_cases q : j = i
      · rw [q, updC_same] at hz
        exact (h.of i hi).wt z (hw z hz)
      · rw [updC_other C _ q] at hz; exact (h.of j hj).wt z hz
  · rw [hcl, if_neg (by omega)]; exact h.z j hj k hk
  · by_cases q : j = i
    · rw [q, updC_same]
      intro z hz
      show z.c ≤ max (C i).g x.c
      rcases List.mem_cons.1 hz with rfl | hz
      · omega
      · have := h.cg i hi z hz; omega
    · rw [updC_other C _ q]; exact h.cg j hj
  · by_cases q : j = i
    · rw [q, updC_same]
      show max (C i).g x.c ≤ K
      have h1 := h.gk i hi
      have h2 := h.gk _ hx.lt
      have h3 := h.cg _ hx.lt x hx.2
      omega
    · rw [updC_other C _ q]; exact h.gk j hj
  · rw [← h.sum]
    exact sumTo_congr n (fun j hj => by rw [hcl, if_neg (by omega)])
  · obtain ⟨P, hP, hL⟩ := h.line
    refine ⟨P, fun z hz => hP z ((hG z).1 hz), fun j hj => ?_⟩
    by_cases q : j = i
    · rw [q, updC_same]
      exact (lineG_apply (h.inv i hi) (hL i hi) (by rw [h.cn i hi]; exact hx.1) hr (hP x hx)).apW wt
    · rw [updC_other C _ q]; exact hL j hj
  · exact fun a b ha hb => h.rise a b ((hG a).1 ha) ((hG b).1 hb)
  · intro a ha
    rcases h.past a ((hG a).1 ha) with q | ⟨y, hy, q⟩
    · exact .inl q
    · exact .inr ⟨y, (hG y).2 hy, q⟩
  · exact fun a b ha hb => h.pastc a b ((hG a).1 ha) ((hG b).1 hb)
  · exact fun a ha j hj => Int.le_trans (h.pastm a ((hG a).1 ha) j hj) (hge j j)
  · intro j hj y hy
    by_cases q : j = i
    · rw [q, updC_same] at hy
      have hy' := hw y hy
      have h1 := h.wtn i hi y hy'
      have h2 := hd y hy
      have h3 := ((h.of i hi).wt y hy').1.o
      have h4 := hr.1
      rw [hcl]
      split
      · rename_i q2
        have e : y.o = x.o := by omega
        rw [q2.2] at h1 ⊢
        have : y.num ≠ x.num := fun q3 => h2 ⟨e, q3⟩
        omega
      · rw [q]; exact h1
    · rw [updC_other C _ q] at hy ⊢
      exact h.wtn j hj y hy

/-- Something that was made waits. -/
theorem NetB.wait {n : Nat} {C : Nat → CS} {K : Int} (h : NetB n C K) {i : Nat} (hi : i < n) {x : OpR} (hx : Gm n C x) (hk : ¬ knownS (C i) x) (hl : (C i).wt.length < 16) :
    (∀ z, Gm n (updC C i (waitS (C i) x)) z ↔ Gm n C z) ∧ NetB n (updC C i (waitS (C i) x)) K := by
  have hG : ∀ z, Gm n (updC C i (waitS (C i) x)) z ↔ Gm n C z := fun z => by
    unfold Gm
    by_cases q : z.o.toNat - 1 = i
    · rw [q, updC_same]; exact Iff.rfl
    · rw [updC_other C _ q]
  have hcl : ∀ j, (updC C i (waitS (C i) x) j).cl = (C j).cl := fun j => by
    by_cases q : j = i
    · rw [q, updC_same]; rfl
    · rw [updC_other C _ q]
  have key : ∀ {Q : CS → Prop}, (∀ j, j < n → Q (C j)) → Q (waitS (C i) x) → ∀ j, j < n → Q (updC C i (waitS (C i) x) j) := fun hQ hS j hj => by
    by_cases q : j = i
    · rw [q, updC_same]; exact hS
    · rw [updC_other C _ q]; exact hQ j hj
  refine ⟨hG, ⟨h.n1, h.n8, key (Q := fun S => S.n = n) h.cn (h.cn i hi), fun j hj => ?_, key h.inv (inv_wait (h.inv i hi) (by rw [h.cn i hi]; exact hx.1) hk hl), fun j hj => ?_, fun j hj k hk => by rw [hcl]; exact h.z j hj k hk, key (Q := fun S => ∀ x ∈ S.ops, x.c ≤ S.g) h.cg (h.cg i hi), key (Q := fun S => S.g ≤ K) h.gk (h.gk i hi), ?_, ?_, ?_, ?_, ?_, ?_, ?_⟩⟩
  · by_cases q : j = i
    · rw [q, updC_same]; exact h.cs i hi
    · rw [updC_other C _ q]; exact h.cs j hj
  · refine ⟨fun z hz => (hG z).2 ?_, fun z hz => (hG z).2 ?_⟩
    · by_cases q : j = i
      · rw [q, updC_same] at hz; exact (h.of i hi).ops z hz
      · rw [updC_other C _ q] at hz; exact (h.of j hj).ops z hz
    · by_cases q : j = i
      · rw [q, updC_same] at hz
        rcases List.mem_append.1 hz with hz | hz
        · exact (h.of i hi).wt z hz
        · rw [List.mem_singleton.1 hz]; exact hx
      · rw [updC_other C _ q] at hz; exact (h.of j hj).wt z hz
  · rw [← h.sum]
    exact sumTo_congr n (fun j hj => by rw [hcl])
  · obtain ⟨P, hP, hL⟩ := h.line
    exact ⟨P, fun z hz => hP z ((hG z).1 hz), key hL ⟨(hL i hi).rga, (hL i hi).els, (hL i hi).ops, (hL i hi).del, (hL i hi).tgt⟩⟩
  · exact fun a b ha hb => h.rise a b ((hG a).1 ha) ((hG b).1 hb)
  · intro a ha
    rcases h.past a ((hG a).1 ha) with q | ⟨y, hy, q⟩
    · exact .inl q
    · exact .inr ⟨y, (hG y).2 hy, q⟩
  · exact fun a b ha hb => h.pastc a b ((hG a).1 ha) ((hG b).1 hb)
  · exact fun a ha j hj => by rw [hcl]; exact h.pastm a ((hG a).1 ha) j hj
  · refine key (Q := fun S => ∀ x ∈ S.wt, S.cl (x.o.toNat - 1) < x.num) h.wtn (fun z hz => ?_)
    rcases List.mem_append.1 hz with hz | hz
    · exact h.wtn i hi z hz
    · rw [List.mem_singleton.1 hz]
      exact Int.lt_of_not_ge (fun q => hk (.inr q))

end Go.Proofs.YtachmkhbbbmioaaGreat

namespace Go.Proofs.YtachmkhbbbmioaaGreat
open Go.RowKit Go.Shelf

theorem LineG.congr {P P' : Int → Int → Int × Int} {S : CS} (h : LineG P S) (e : ∀ y ∈ S.L, P' y.c y.k = P y.c y.k) : LineG P' S := ⟨h.rga.congr e, h.els, h.ops, h.del, h.tgt⟩

/-- An operation that a copy makes. -/
structure NewOp (n : Nat) (C : Nat → CS) (i : Nat) (x : OpR) : Prop where
  o : x.o = (i : Int) + 1
  ok : Ok8 n x
  rdy : RdyS (C i) x
  c : x.c = (C i).g + 1
  q : x.q = (C i).cl

/-- A copy writes. -/
theorem NetB.write {n : Nat} {C : Nat → CS} {K : Int} (h : NetB n C K) {i : Nat} (hi : i < n) {x : OpR} (hx : NewOp n C i x) :
    (∀ z, Gm n (updC C i (applyS (C i) x)) z ↔ Gm n C z ∨ z = x) ∧ (∀ z, Gm n C z → z ≠ x) ∧ NetB n (updC C i (applyS (C i) x)) (K + 1) ∧ (NoNext (C i) → NoNext (applyS (C i) x)) := by
  have ho : x.o.toNat - 1 = i := by have := hx.o; omega
  have hnum : x.num = (C i).cl i + 1 := by have := hx.rdy.1; rw [ho] at this; exact this
  have own : ∀ z, Gm n C z → z.o = x.o → z.num ≤ (C i).cl i ∧ z.c ≤ (C i).g := fun z hz e => by
    have h1 := hz.2
    rw [e, ho] at h1
    have h2 := h.in_cl hi h1
    rw [e, ho] at h2
    exact ⟨h2, h.cg i hi z h1⟩
  have hne : ∀ z, Gm n C z → z ≠ x := fun z hz e => by
    have := (own z hz (by rw [e])).1
    rw [e] at this
    omega
  have hG : ∀ z, Gm n (updC C i (applyS (C i) x)) z ↔ Gm n C z ∨ z = x := fun z => by
    unfold Gm
    constructor
    · rintro ⟨z1, z2⟩
      by_cases q : z.o.toNat - 1 = i
      · rw [q, updC_same] at z2
        rcases List.mem_cons.1 z2 with rfl | z2
        · exact .inr rfl
        · exact .inl ⟨z1, by rw [q]; exact z2⟩
      · rw [updC_other C _ q] at z2
        exact .inl ⟨z1, z2⟩
    · rintro (⟨z1, z2⟩ | rfl)
      · refine ⟨z1, ?_⟩
        by_cases q : z.o.toNat - 1 = i
        · rw [q, updC_same]; rw [q] at z2; exact List.mem_cons_of_mem _ z2
        · rw [updC_other C _ q]; exact z2
      · exact ⟨hx.ok, by rw [ho, updC_same]; exact List.mem_cons_self⟩
  have hcl : ∀ j k, (updC C i (applyS (C i) x) j).cl k = if j = i ∧ k = i then (C i).cl k + 1 else (C j).cl k := fun j k => by
    by_cases q : j = i
    · rw [q, updC_same]
      show bump (C i).cl (x.o.toNat - 1) k = _
      unfold bump
      rw [ho]
      by_cases q2 : k = i <;> simp [q2]
    · rw [updC_other C _ q]; simp [q]
  have hge : ∀ j k, (C j).cl k ≤ (updC C i (applyS (C i) x) j).cl k := fun j k => by
    rw [hcl]
    split
    · rename_i q; rw [q.1]; omega
    · exact Int.le_refl _
  have hwt : ∀ y ∈ (C i).wt, y.o.toNat - 1 ≠ i := fun y hy q => by
    have hg := (h.of i hi).wt y hy
    have := h.wtn i hi y hy
    have h2 := (own y hg (by have := hg.1.o; have := hx.o; omega)).1
    rw [q] at this
    omega
  have newm : ∀ z, Gm n C z → ¬ (z.c = x.c ∧ z.o = x.o) := fun z hz q => by
    have := (own z hz q.2).2
    have := hx.c
    omega
  refine ⟨hG, hne, ⟨h.n1, h.n8, fun j hj => ?_, fun j hj => ?_, fun j hj => ?_, fun j hj => ?_, fun j hj k hk => ?_, fun j hj => ?_, fun j hj => ?_, ?_, ?_, ?_, ?_, ?_, ?_, ?_⟩, ?_⟩
  · by_cases q : j = i
    · rw [q, updC_same]; exact h.cn i hi
    · rw [updC_other C _ q]; exact h.cn j hj
  · by_cases q : j = i
    · rw [q, updC_same]; exact h.cs i hi
    · rw [updC_other C _ q]; exact h.cs j hj
  · by_cases q : j = i
    · rw [q, updC_same]; exact inv_apply (h.inv i hi) (by rw [h.cn i hi]; exact hx.ok) hx.rdy
    · rw [updC_other C _ q]; exact h.inv j hj
  · refine ⟨fun z hz => (hG z).2 ?_, fun z hz => (hG z).2 ?_⟩
    · by_cases q : j = i
      · rw [q, updC_same] at hz
        rcases List.mem_cons.1 hz with rfl | hz
        · exact .inr rfl
        · exact .inl ((h.of i hi).ops z hz)
      · rw [updC_other C _ q] at hz; exact .inl ((h.of j hj).ops z hz)
    · by_cases q : j = i
      · rw [q, updC_same] at hz
        exact .inl ((h.of i hi).wt z hz)
      · rw [updC_other C _ q] at hz; exact .inl ((h.of j hj).wt z hz)
  · rw [hcl, if_neg (by omega)]; exact h.z j hj k hk
  · by_cases q : j = i
    · rw [q, updC_same]
      intro z hz
      show z.c ≤ max (C i).g x.c
      rcases List.mem_cons.1 hz with rfl | hz
      · omega
      · have := h.cg i hi z hz; omega
    · rw [updC_other C _ q]; exact h.cg j hj
  · by_cases q : j = i
    · rw [q, updC_same]
      show max (C i).g x.c ≤ K + 1
      have h1 := h.gk i hi
      have := hx.c
      omega
    · rw [updC_other C _ q]; have := h.gk j hj; omega
  · rw [← h.sum]
    exact sumTo_up n hi (fun j hj q => by rw [hcl, if_neg (by omega)]) (by show (updC C i (applyS (C i) x) i).cl i = _; rw [hcl, if_pos ⟨rfl, rfl⟩])
  · obtain ⟨P, hP, hL⟩ := h.line
    refine ⟨fun c k => if c = x.c ∧ k = x.o ∧ x.kind = 0 then (x.tc, x.tk) else P c k, fun z hz hk => ?_, fun j hj => ?_⟩
    · rcases (hG z).1 hz with hz | rfl
      · have := newm z hz
        try simp only
        rw [if_neg (fun q => this ⟨q.1, q.2.1⟩)]
        exact hP z hz hk
      · simp [hk]
    · have cg : ∀ j, j < n → LineG (fun c k => if c = x.c ∧ k = x.o ∧ x.kind = 0 then (x.tc, x.tk) else P c k) (C j) := fun j hj => (hL j hj).congr (fun e he => by
        obtain ⟨y, hy, y1, y2, y3, -⟩ := (hL j hj).els e he
        have := newm y ((h.of j hj).ops y hy)
        try simp only
        rw [if_neg (fun q => this ⟨by rw [y2, q.1], by rw [y3, q.2.1]⟩)])
      by_cases q : j = i
      · rw [q, updC_same]
        exact lineG_apply (h.inv i hi) (cg i hi) (by rw [h.cn i hi]; exact hx.ok) hx.rdy (fun hk => by simp [hk])
      · rw [updC_other C _ q]; exact cg j hj
  · intro a b ha hb e1 e2
    rcases (hG a).1 ha with ha' | ha'
    · rcases (hG b).1 hb with hb' | hb'
      · exact h.rise a b ha' hb' e1 e2
      · rw [hb'] at e1 e2 ⊢
        have := (own a ha' e1).2; have := hx.c; omega
    · rw [ha'] at e1 e2 ⊢
      rcases (hG b).1 hb with hb' | hb'
      · have := (own b hb' e1.symm).1; omega
      · rw [hb'] at e2; omega
  · intro a ha
    rcases (hG a).1 ha with ha | rfl
    · rcases h.past a ha with q | ⟨y, hy, q⟩
      · exact .inl q
      · exact .inr ⟨y, (hG y).2 (.inl hy), q⟩
    · rcases hasM_iff.1 hx.rdy.2.2.1 with q | ⟨e, he, e1, e2⟩
      · exact .inl q
      · obtain ⟨P, hP, hL⟩ := h.line
        obtain ⟨y, hy, y1, y2, y3, -⟩ := (hL i hi).els e he
        exact .inr ⟨y, (hG y).2 (.inl ((h.of i hi).ops y hy)), y1, by rw [y2, e1], by rw [y3, e2], by rw [hx.q]; exact h.in_cl hi hy⟩
  · intro a b ha hb e1
    rcases (hG a).1 ha with ha' | ha'
    · rcases (hG b).1 hb with hb' | hb'
      · exact h.pastc a b ha' hb' e1
      · rw [hb', ho] at e1
        have := h.pastm a ha' i hi
        omega
    · rw [ha', hx.q] at e1
      rw [ha']
      rcases (hG b).1 hb with hb' | hb'
      · have := h.cg i hi b (h.has hi hb' e1)
        have := hx.c
        omega
      · rw [hb', ho] at e1; omega
  · intro a ha j hj
    refine Int.le_trans ?_ (hge j j)
    rcases (hG a).1 ha with ha | rfl
    · exact h.pastm a ha j hj
    · rw [hx.q]; exact h.cl_le hi hj
  · intro j hj y hy
    by_cases q : j = i
    · rw [q, updC_same] at hy
      have hy' : y ∈ (C i).wt := hy
      rw [hcl, if_neg (fun q2 => hwt y hy' q2.2), q]
      exact h.wtn i hi y hy'
    · rw [updC_other C _ q] at hy ⊢
      exact h.wtn j hj y hy
  · intro hN y hy hr
    have hy' : y ∈ (C i).wt := hy
    have hg := (h.of i hi).wt y hy'
    have e1 : ∀ k, (applyS (C i) x).cl k = if k = i then (C i).cl k + 1 else (C i).cl k := fun k => by
      have := hcl i k
      rw [updC_same] at this
      rw [this]; simp
    refine hN y hy' (h.rdy hi hg ?_ (fun j hj => ?_))
    · rw [hr.1, e1, if_neg (hwt y hy')]
    · by_cases q : j = i
      · rw [q]; exact h.pastm y hg i hi
      · have := hr.2.1 j (by have := h.n8; omega)
        rw [e1, if_neg q] at this
        exact this

/-- What waits is applied. -/
theorem NetB.drain {n : Nat} {K : Int} {i : Nat} (hi : i < n) : ∀ (f : Nat) {C : Nat → CS}, NetB n C K → (C i).wt.length ≤ f →
    (∀ z, Gm n (updC C i (drainS f (C i))) z ↔ Gm n C z) ∧ NetB n (updC C i (drainS f (C i))) K ∧ NoNext (drainS f (C i)) ∧ (∀ k, (C i).cl k ≤ (drainS f (C i)).cl k)
  | 0, C, h, hl => by
    have e : drainS 0 (C i) = C i := rfl
    rw [e, updC_self]
    have hw : (C i).wt = [] := List.eq_nil_of_length_eq_zero (by omega)
    exact ⟨fun _ => Iff.rfl, h, fun z hz => (by rw [hw] at hz; cases hz), fun _ => Int.le_refl _⟩
  | f + 1, C, h, hl => by
    cases hn : nextS (C i) with
    | none =>
      have e : drainS (f + 1) (C i) = C i := by unfold drainS; rw [hn]
      rw [e, updC_self]
      refine ⟨fun _ => Iff.rfl, h, fun z hz hr => ?_, fun _ => Int.le_refl _⟩
      obtain ⟨m, hm, hm2⟩ : ∃ m, m ∈ (C i).wt ∧ RdyS (C i) m ∧ ∀ z ∈ (C i).wt, RdyS (C i) z → m.o ≤ z.o := by
        have : ∀ (l : List OpR), (∃ z ∈ l, RdyS (C i) z) → ∃ m, m ∈ l ∧ RdyS (C i) m ∧ ∀ z ∈ l, RdyS (C i) z → m.o ≤ z.o := by
          intro l
          induction l with
          | nil => rintro ⟨z, hz, -⟩; cases hz
          | cons a l ih =>
            intro hz
            by_cases hl : ∃ z ∈ l, RdyS (C i) z
            · obtain ⟨m, m1, m2, m3⟩ := ih hl
              by_cases ha : RdyS (C i) a ∧ a.o ≤ m.o
              · refine ⟨a, by simp, ha.1, fun z hz hr => ?_⟩
                rcases List.mem_cons.1 hz with rfl | hz
                · exact Int.le_refl _
                · exact Int.le_trans ha.2 (m3 z hz hr)
              · refine ⟨m, by simp [m1], m2, fun z hz hr => ?_⟩
                rcases List.mem_cons.1 hz with rfl | hz
                · exact Int.le_of_lt (Int.lt_of_not_ge (fun q => ha ⟨hr, q⟩))
                · exact m3 z hz hr
            · obtain ⟨z, z1, z2⟩ := hz
              rcases List.mem_cons.1 z1 with rfl | z1
              · refine ⟨z, by simp, z2, fun y hy hr => ?_⟩
                rcases List.mem_cons.1 hy with rfl | hy
                · exact Int.le_refl _
                · exact (hl ⟨y, hy, hr⟩).elim
              · exact (hl ⟨z, z1, z2⟩).elim
        exact this _ ⟨z, hz, hr⟩
      rw [nextS_some (h.inv i hi).wo ⟨hm, hm2⟩] at hn
      cases hn
    | some x =>
      have e : drainS (f + 1) (C i) = drainS f (applyS (remS (C i) x) x) := by conv => lhs; unfold drainS; rw [hn]
      have hx := nextS_is hn
      have hI := inv_step (h.inv i hi) hx
      have e2 : applyS (remS (C i) x) x = apW (C i) x (remW x (C i).wt) := rfl
      rw [e2] at hI
      obtain ⟨g1, h1⟩ := h.apply hi ((h.of i hi).wt x hx.1) hx.2.1 (wt := remW x (C i).wt) (fun y hy => (List.mem_filter.1 hy).1) (fun y hy q => by
        have := (List.mem_filter.1 hy).2
        simp [q.1, q.2] at this) hI
      rw [e, e2]
      have hl2 := rem_len (h.inv i hi).wo hx.1
      have := NetB.drain hi f h1 (by rw [updC_same]; show (remW x (C i).wt).length ≤ f; omega)
      rw [updC_same, updC_updC] at this
      obtain ⟨g2, h2, h3, h4⟩ := this
      refine ⟨fun z => (g2 z).trans (g1 z), h2, h3, fun k => Int.le_trans ?_ (h4 k)⟩
      show (C i).cl k ≤ bump (C i).cl (x.o.toNat - 1) k
      unfold bump; split <;> omega

/-- P10: what was made is told. -/
theorem NetB.takes {n : Nat} {C : Nat → CS} {K : Int} (h : NetB n C K) {i : Nat} (hi : i < n) {x : OpR} (hx : Gm n C x) (hN : NoNext (C i)) :
    (∀ z, Gm n (updC C i (takesS (C i) x)) z ↔ Gm n C z) ∧ NetB n (updC C i (takesS (C i) x)) K ∧ NoNext (takesS (C i) x) ∧ (∀ k, (C i).cl k ≤ (takesS (C i) x).cl k) ∧ ((x.num = (C i).cl (x.o.toNat - 1) + 1 ∧ ∀ j, j < n → x.q j ≤ (C i).cl j) → x.num ≤ (takesS (C i) x).cl (x.o.toNat - 1)) := by
  unfold takesS
  split
  · rename_i hk
    rw [updC_self]
    refine ⟨fun _ => Iff.rfl, h, hN, fun _ => Int.le_refl _, fun ⟨q1, q2⟩ => ?_⟩
    rcases hk with ⟨y, hy, e1, e2⟩ | hk
    · have : y = x := h.one ((h.of i hi).wt y hy) hx e1 e2
      rw [this] at hy
      exact (hN x hy (h.rdy hi hx q1 q2)).elim
    · exact hk
  · rename_i hk
    split
    · rename_i hr
      have e2 : applyS (C i) x = apW (C i) x (C i).wt := rfl
      obtain ⟨g1, h1⟩ := h.apply hi hx hr (wt := (C i).wt) (fun y hy => hy) (fun y hy q => hk (.inl ⟨y, hy, q⟩)) (inv_apply (h.inv i hi) (by rw [h.cn i hi]; exact hx.1) hr)
      have := NetB.drain hi (C i).wt.length h1 (by rw [updC_same]; exact Nat.le_refl _)
      rw [updC_same, updC_updC] at this
      obtain ⟨g2, h2, h3, h4⟩ := this
      rw [e2]
      refine ⟨fun z => (g2 z).trans (g1 z), h2, h3, fun k => Int.le_trans ?_ (h4 k), fun _ => Int.le_trans ?_ (h4 _)⟩
      · show (C i).cl k ≤ bump (C i).cl (x.o.toNat - 1) k
        unfold bump; split <;> omega
      · show x.num ≤ bump (C i).cl (x.o.toNat - 1) (x.o.toNat - 1)
        rw [bump_same, hr.1]; exact Int.le_refl _
    · rename_i hr
      have no : ¬ (x.num = (C i).cl (x.o.toNat - 1) + 1 ∧ ∀ j, j < n → x.q j ≤ (C i).cl j) := fun q => hr (h.rdy hi hx q.1 q.2)
      split
      · rename_i hl
        obtain ⟨g1, h1⟩ := h.wait hi hx hk hl
        refine ⟨g1, h1, fun z hz hrz => ?_, fun _ => Int.le_refl _, fun q => (no q).elim⟩
        have hrz' : RdyS (C i) z := hrz
        rcases List.mem_append.1 hz with hz | hz
        · exact hN z hz hrz'
        · rw [List.mem_singleton.1 hz] at hrz'; exact hr hrz'
      · rw [updC_self]
        exact ⟨fun _ => Iff.rfl, h, hN, fun _ => Int.le_refl _, fun q => (no q).elim⟩

/-- A batch of what was made is told. -/
theorem NetB.takesAll {n : Nat} {K : Int} {i : Nat} (hi : i < n) : ∀ (l : List OpR) {C : Nat → CS}, NetB n C K → (∀ x ∈ l, Gm n C x) → NoNext (C i) →
    (∀ z, Gm n (updC C i (takesAll (C i) l)) z ↔ Gm n C z) ∧ NetB n (updC C i (takesAll (C i) l)) K ∧ NoNext (takesAll (C i) l) ∧ (∀ k, (C i).cl k ≤ (takesAll (C i) l).cl k) ∧
      ∀ x ∈ l, x.num ≤ (C i).cl (x.o.toNat - 1) + 1 → (∀ j, j < n → x.q j ≤ (C i).cl j) → x.num ≤ (takesAll (C i) l).cl (x.o.toNat - 1)
  | [], C, h, _, hN => by
    show (∀ z, Gm n (updC C i (C i)) z ↔ Gm n C z) ∧ NetB n (updC C i (C i)) K ∧ NoNext (C i) ∧ (∀ k, (C i).cl k ≤ (C i).cl k) ∧ _
    rw [updC_self]
    exact ⟨fun _ => Iff.rfl, h, hN, fun _ => Int.le_refl _, fun x hx => (by cases hx)⟩
  | y :: l, C, h, hl, hN => by
    obtain ⟨g1, h1, n1, c1, p1⟩ := h.takes hi (hl y (by simp)) hN
    have := NetB.takesAll hi l h1 (fun x hx => (g1 x).2 (hl x (by simp [hx]))) (by rw [updC_same]; exact n1)
    rw [updC_same, updC_updC] at this
    obtain ⟨g2, h2, n2, c2, p2⟩ := this
    refine ⟨fun z => (g2 z).trans (g1 z), h2, n2, fun k => Int.le_trans (c1 k) (c2 k), fun x hx q1 q2 => ?_⟩
    rcases List.mem_cons.1 hx with rfl | hx
    · refine Int.le_trans ?_ (c2 _)
      by_cases q : x.num = (C i).cl (x.o.toNat - 1) + 1
      · exact p1 ⟨q, q2⟩
      · exact Int.le_trans (by omega) (c1 _)
    · exact p2 x hx (Int.le_trans q1 (by have := c1 (x.o.toNat - 1); omega)) (fun j hj => Int.le_trans (q2 j hj) (c1 j))

end Go.Proofs.YtachmkhbbbmioaaGreat

namespace Go.Proofs.YtachmkhbbbmioaaGreat
open Go.RowKit Go.Shelf

/-- The runes that were written, each another one, and those that were deleted. -/
structure NetT (G : OpR → Prop) (wr de : List Int) : Prop where
  nth : ∀ k, k < wr.length → wr[k]? = some (19968 + (k : Int))
  run : ∀ x, G x → x.kind = 0 → 19968 ≤ x.r ∧ x.r < 19968 + wr.length
  one : ∀ x y, G x → G y → x.kind = 0 → y.kind = 0 → x.r = y.r → x = y
  his : ∀ r : Int, 19968 ≤ r → r < 19968 + wr.length → ∃ x, G x ∧ x.kind = 0 ∧ x.r = r
  del : ∀ r, r ∈ de ↔ ∃ x y, G x ∧ G y ∧ x.kind = 1 ∧ y.kind = 0 ∧ y.c = x.tc ∧ y.o = x.tk ∧ y.r = r

theorem NetT.congr {G G' : OpR → Prop} {wr de : List Int} (h : NetT G wr de) (e : ∀ z, G' z ↔ G z) : NetT G' wr de := by
  have : G' = G := funext fun z => propext (e z)
  rw [this]; exact h

structure NetOk (n : Nat) (C : Nat → CS) (wr de : List Int) : Prop where
  b : NetB n C ((wr.length : Int) + de.length)
  t : NetT (Gm n C) wr de
  nn : ∀ i, i < n → NoNext (C i)

theorem NetT.mem {G : OpR → Prop} {wr de : List Int} (h : NetT G wr de) {r : Int} (h1 : 19968 ≤ r) (h2 : r < 19968 + wr.length) : r ∈ wr := by
  have := h.nth (r - 19968).toNat (by omega)
  have e : (19968 : Int) + ((r - 19968).toNat : Int) = r := by omega
  rw [e] at this
  exact List.mem_of_getElem? this

theorem NetT.bound {G : OpR → Prop} {wr de : List Int} (h : NetT G wr de) {r : Int} (hr : r ∈ wr) : 19968 ≤ r ∧ r < 19968 + wr.length := by
  obtain ⟨k, hk, e⟩ := List.getElem_of_mem hr
  have := h.nth k hk
  rw [List.getElem?_eq_getElem hk, e] at this
  simp only [Option.some.injEq] at this
  omega

theorem applyL_cut {S : CS} (hI : Inv S) {x : OpR} (hk : x.kind = 0) (hs : Sc x.r) {A R : List El} (hL : S.L = A ++ R) (e1 : x.tc = lc A) (e2 : x.tk = lk A) : applyL x S.L = A ++ behind (x.el hs) R := by
  unfold applyL
  rw [if_neg (by omega), dif_pos hs, e1, e2, hL]
  rcases A.eq_nil_or_concat with rfl | ⟨B, y, rfl⟩
  · rw [if_pos ⟨rfl, rfl⟩]; rfl
  · rw [List.concat_eq_append] at *
    obtain ⟨l1, l2, -, -⟩ := last_snoc B y
    have hy : y ∈ S.L := by rw [hL]; simp
    have h0 := (hI.good.mark y hy).1
    have ha := hI.apart
    rw [hL, List.append_assoc] at ha
    rw [l1, l2, if_neg (by omega), List.append_assoc, List.append_assoc]
    exact layAt_cut _ (apart_mem ha).1

theorem hasM_cut {S : CS} {A R : List El} (hL : S.L = A ++ R) : hasM (lc A) (lk A) S.L = true := by
  rw [hasM_iff]
  rcases A.eq_nil_or_concat with rfl | ⟨B, y, rfl⟩
  · exact .inl ⟨rfl, rfl⟩
  · rw [List.concat_eq_append] at *
    obtain ⟨l1, l2, -, -⟩ := last_snoc B y
    exact .inr ⟨y, by rw [hL]; simp, l1.symm, l2.symm⟩

/-- An insert that a copy makes. -/
theorem NetOk.ins {n : Nat} {C : Nat → CS} {wr de : List Int} (h : NetOk n C wr de) {i : Nat} (hi : i < n) (hK : wr.length + de.length < 100) {A R : List El} (hL : (C i).L = A ++ R) {r : Int} (hre : 19968 + (wr.length : Int) = r) (hr : Lib.validRune r = true) :
    applyS (C i) (opIns (C i) (lc A) (lk A) r) = { C i with cl := bump (C i).cl ((C i).s - 1), g := (C i).g + 1, L := A ++ behind (newEl (C i) r hr) R, ops := opIns (C i) (lc A) (lk A) r :: (C i).ops } ∧
    NetOk n (updC C i (applyS (C i) (opIns (C i) (lc A) (lk A) r))) (wr ++ [r]) de := by
  have hI := h.b.inv i hi
  have hcs := h.b.cs i hi
  have hcn := h.b.cn i hi
  have hgk := h.b.gk i hi
  have hg0 := hI.good.g0
  have hn8 := h.b.n8
  have hsc := valid_sc hr
  obtain ⟨x, hx⟩ : ∃ x, opIns (C i) (lc A) (lk A) r = x := ⟨_, rfl⟩
  have x0 : x.o = ((C i).s : Int) := by rw [← hx]; rfl
  have x1 : x.num = (C i).cl ((C i).s - 1) + 1 := by rw [← hx]; rfl
  have x2 : x.c = (C i).g + 1 := by rw [← hx]; rfl
  have x3 : x.kind = 0 := by rw [← hx]; rfl
  have x4 : x.tc = lc A := by rw [← hx]; rfl
  have x5 : x.tk = lk A := by rw [← hx]; rfl
  have x6 : x.r = r := by rw [← hx]; rfl
  have x7 : x.q = (C i).cl := by rw [← hx]; rfl
  have es : (C i).s - 1 = i := by omega
  have eo : x.o.toNat - 1 = i := by omega
  have hci : (C i).cl i ≤ (wr.length : Int) + de.length := by
    have h1 := sumTo_one n hi (f := fun i => (C i).cl i) (fun j hj => h.b.cl0 hj j)
    have h2 := h.b.sum
    try simp only at h1 h2
    omega
  have h0i := h.b.cl0 hi i
  have htgt : (x.tc = 0 ∧ x.tk = 0 ∧ x.kind = 0) ∨ (1 ≤ x.tc ∧ x.tc ≤ x.c - 1 ∧ 1 ≤ x.tk ∧ x.tk ≤ n) := by
    rw [x4, x5, x3, x2]
    rcases A.eq_nil_or_concat with rfl | ⟨B, y, rfl⟩
    · exact .inl ⟨rfl, rfl, rfl⟩
    · rw [List.concat_eq_append] at *
      obtain ⟨l1, l2, -, -⟩ := last_snoc B y
      have hy : y ∈ (C i).L := by rw [hL]; simp
      have m1 := hI.good.mark y hy
      have m2 := hI.ops.mkk y hy
      rw [l1, l2]
      right
      omega
  have ok : Ok8 n x := by
    refine ⟨by omega, by rw [x1, es]; omega, by omega, by omega, htgt, fun _ => by rw [x6]; exact hsc, fun q => by omega, fun j hj => ?_, fun j hj => ?_, ?_⟩
    · rw [x7]; exact hI.good.cl j (by omega)
    · rw [x7]; exact h.b.z i hi j hj
    · rw [x7, eo, x1, es]; omega
  have rdy : RdyS (C i) x := by
    refine ⟨by rw [eo, x1, es], fun j _ => by rw [x7]; exact Int.le_refl _, by rw [x4, x5]; exact hasM_cut hL, .inr ?_⟩
    rw [hasM_false]
    refine ⟨by omega, fun y hy q => ?_⟩
    have := (hI.good.mark y hy).2
    omega
  have hN : NewOp n C i x := ⟨by omega, ok, rdy, x2, x7⟩
  obtain ⟨g1, g2, g3, g4⟩ := h.b.write hi hN
  rw [hx]
  refine ⟨?_, ?_, ?_, ?_⟩
  · have e1 : applyL x (C i).L = A ++ behind (newEl (C i) r hr) R := by
      rw [applyL_cut hI x3 (by rw [x6]; exact hsc) hL x4 x5]
      congr 2
      unfold OpR.el newEl
      congr 1
    unfold applyS
    rw [e1, eo, es, x2]
    congr 1
    omega
  · have : (((wr ++ [r]).length : Int) + de.length) = (wr.length : Int) + de.length + 1 := by simp; omega
    rw [this]; exact g3
  · have len1 : (wr ++ [r]).length = wr.length + 1 := by simp
    refine ⟨fun k hk => ?_, fun z hz zk => ?_, fun y z hy hz yk zk e => ?_, fun u hu1 hu2 => ?_, fun u => ?_⟩
    · rw [len1] at hk
      rw [List.getElem?_append]
      by_cases q : k < wr.length
      · rw [if_pos q]; exact h.t.nth k q
      · have : k = wr.length := by omega
        rw [if_neg q, this]; simp; omega
    · rw [len1]
      rcases (g1 z).1 hz with hz | rfl
      · have := h.t.run z hz zk; omega
      · rw [x6]; omega
    · rcases (g1 y).1 hy with hy' | hy'
      · rcases (g1 z).1 hz with hz' | hz'
        · exact h.t.one y z hy' hz' yk zk e
        · have := h.t.run y hy' yk; rw [hz'] at e; omega
      · rcases (g1 z).1 hz with hz' | hz'
        · have := h.t.run z hz' zk; rw [hy'] at e; omega
        · rw [hy', hz']
    · rw [len1] at hu2
      by_cases q : u < 19968 + wr.length
      · obtain ⟨z, z1, z2, z3⟩ := h.t.his u hu1 q
        exact ⟨z, (g1 z).2 (.inl z1), z2, z3⟩
      · exact ⟨x, (g1 x).2 (.inr rfl), x3, by omega⟩
    · rw [h.t.del u]
      constructor
      · rintro ⟨a, b, ha, hb, q⟩
        exact ⟨a, b, (g1 a).2 (.inl ha), (g1 b).2 (.inl hb), q⟩
      · rintro ⟨a, b, ha, hb, a1, b1, c1, c2, c3⟩
        rcases (g1 a).1 ha with ha' | ha'
        · rcases (g1 b).1 hb with hb' | hb'
          · exact ⟨a, b, ha', hb', a1, b1, c1, c2, c3⟩
          · rcases h.b.past a ha' with q | ⟨y, hy, y1, y2, y3, -⟩
            · have := hb'.symm ▸ x2; omega
            · have := g3.mark ((g1 y).2 (.inl hy)) hb (by rw [y3, c2]) (by rw [y2, c1])
              exact (g2 y hy (this.trans hb')).elim
        · rw [ha'] at a1; omega
  · intro j hj
    by_cases q : j = i
    · rw [q, updC_same]; exact g4 (h.nn i hi)
    · rw [updC_other C _ q]; exact h.nn j hj

/-- A delete that a copy makes. -/
theorem NetOk.del {n : Nat} {C : Nat → CS} {wr de : List Int} (h : NetOk n C wr de) {i : Nat} (hi : i < n) (hK : wr.length + de.length < 100) {A R : List El} {e : El} (hL : (C i).L = A ++ e :: R) :
    applyS (C i) (opDel (C i) e.c e.k) = { C i with cl := bump (C i).cl ((C i).s - 1), g := (C i).g + 1, L := A ++ gone e :: R, ops := opDel (C i) e.c e.k :: (C i).ops } ∧
    NetOk n (updC C i (applyS (C i) (opDel (C i) e.c e.k))) wr (de ++ [e.r]) := by
  have hI := h.b.inv i hi
  have hcs := h.b.cs i hi
  have hcn := h.b.cn i hi
  have hgk := h.b.gk i hi
  have hg0 := hI.good.g0
  have hn8 := h.b.n8
  have he : e ∈ (C i).L := by rw [hL]; simp
  have m1 := hI.good.mark e he
  have m2 := hI.ops.mkk e he
  obtain ⟨x, hx⟩ : ∃ x, opDel (C i) e.c e.k = x := ⟨_, rfl⟩
  have x0 : x.o = ((C i).s : Int) := by rw [← hx]; rfl
  have x1 : x.num = (C i).cl ((C i).s - 1) + 1 := by rw [← hx]; rfl
  have x2 : x.c = (C i).g + 1 := by rw [← hx]; rfl
  have x3 : x.kind = 1 := by rw [← hx]; rfl
  have x4 : x.tc = e.c := by rw [← hx]; rfl
  have x5 : x.tk = e.k := by rw [← hx]; rfl
  have x6 : x.r = 0 := by rw [← hx]; rfl
  have x7 : x.q = (C i).cl := by rw [← hx]; rfl
  have es : (C i).s - 1 = i := by omega
  have eo : x.o.toNat - 1 = i := by omega
  have hci : (C i).cl i ≤ (wr.length : Int) + de.length := by
    have h1 := sumTo_one n hi (f := fun i => (C i).cl i) (fun j hj => h.b.cl0 hj j)
    have h2 := h.b.sum
    try simp only at h1 h2
    omega
  have h0i := h.b.cl0 hi i
  have ok : Ok8 n x := by
    refine ⟨by omega, by rw [x1, es]; omega, by omega, by omega, .inr (by omega), fun q => by omega, fun _ => x6, fun j hj => ?_, fun j hj => ?_, ?_⟩
    · rw [x7]; exact hI.good.cl j (by omega)
    · rw [x7]; exact h.b.z i hi j hj
    · rw [x7, eo, x1, es]; omega
  have rdy : RdyS (C i) x := by
    refine ⟨by rw [eo, x1, es], fun j _ => by rw [x7]; exact Int.le_refl _, ?_, .inl x3⟩
    rw [x4, x5, hasM_iff]
    exact .inr ⟨e, he, rfl, rfl⟩
  have hN : NewOp n C i x := ⟨by omega, ok, rdy, x2, x7⟩
  obtain ⟨g1, g2, g3, g4⟩ := h.b.write hi hN
  obtain ⟨P, -, hP⟩ := h.b.line
  obtain ⟨y, hy, y1, y2, y3, y4⟩ := (hP i hi).els e he
  have hyG := (h.b.of i hi).ops y hy
  rw [hx]
  refine ⟨?_, ?_, ?_, ?_⟩
  · have e1 : applyL x (C i).L = A ++ gone e :: R := by
      have ha := hI.apart
      rw [hL] at ha
      unfold applyL
      rw [if_pos x3, x4, x5, hL, strikeAt_cut ha]
    unfold applyS
    rw [e1, eo, es, x2]
    congr 1
    omega
  · have : ((wr.length : Int) + (de ++ [e.r]).length) = (wr.length : Int) + de.length + 1 := by simp; omega
    rw [this]; exact g3
  · have kx : ∀ z, Gm n (updC C i (applyS (C i) x)) z → z.kind = 0 → Gm n C z := fun z hz zk => by
      rcases (g1 z).1 hz with hz | rfl
      · exact hz
      · omega
    refine ⟨h.t.nth, fun z hz zk => h.t.run z (kx z hz zk) zk, fun a b ha hb ak bk q => h.t.one a b (kx a ha ak) (kx b hb bk) ak bk q, fun u hu1 hu2 => ?_, fun u => ?_⟩
    · obtain ⟨z, z1, z2, z3⟩ := h.t.his u hu1 hu2
      exact ⟨z, (g1 z).2 (.inl z1), z2, z3⟩
    · rw [List.mem_append, h.t.del u, List.mem_singleton]
      constructor
      · rintro (⟨a, b, ha, hb, q⟩ | rfl)
        · exact ⟨a, b, (g1 a).2 (.inl ha), (g1 b).2 (.inl hb), q⟩
        · exact ⟨x, y, (g1 x).2 (.inr rfl), (g1 y).2 (.inl hyG), x3, y1, by rw [y2, x4], by rw [y3, x5], y4⟩
      · rintro ⟨a, b, ha, hb, a1, b1, c1, c2, c3⟩
        have hb' := kx b hb b1
        rcases (g1 a).1 ha with ha | rfl
        · exact .inl ⟨a, b, ha, hb', a1, b1, c1, c2, c3⟩
        · right
          have : b = y := h.b.mark hb' hyG (by rw [c2, x5, y3]) (by rw [c1, x4, y2])
          rw [← c3, this, y4]
  · intro j hj
    by_cases q : j = i
    · rw [q, updC_same]; exact g4 (h.nn i hi)
    · rw [updC_other C _ q]; exact h.nn j hj

/-- A batch of what was made comes to a copy. -/
theorem NetOk.takes {n : Nat} {C : Nat → CS} {wr de : List Int} (h : NetOk n C wr de) {i : Nat} (hi : i < n) {l : List OpR} (hl : ∀ x ∈ l, Gm n C x) :
    (∀ z, Gm n (updC C i (takesAll (C i) l)) z ↔ Gm n C z) ∧ NetOk n (updC C i (takesAll (C i) l)) wr de ∧ (∀ k, (C i).cl k ≤ (takesAll (C i) l).cl k) ∧
      ∀ x ∈ l, x.num ≤ (C i).cl (x.o.toNat - 1) + 1 → (∀ j, j < n → x.q j ≤ (C i).cl j) → x.num ≤ (takesAll (C i) l).cl (x.o.toNat - 1) := by
  obtain ⟨g1, h1, n1, c1, p1⟩ := NetB.takesAll hi l h.b hl (h.nn i hi)
  refine ⟨g1, ⟨h1, h.t.congr g1, fun j hj => ?_⟩, c1, p1⟩
  by_cases q : j = i
  · rw [q, updC_same]; exact n1
  · rw [updC_other C _ q]; exact h.nn j hj

end Go.Proofs.YtachmkhbbbmioaaGreat
