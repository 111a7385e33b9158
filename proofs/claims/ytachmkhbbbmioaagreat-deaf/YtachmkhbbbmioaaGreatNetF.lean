import Derived.Test.YtachmkhbbbmioaaGreatRgaX
namespace Go.Proofs.YtachmkhbbbmioaaGreat
open Go.RowKit Go.Shelf

/-- The runes of a text. -/
def tx (S : CS) : List Int := (vis S.L).map (fun e => e.r)

theorem NetOk.el {n : Nat} {C : Nat → CS} {wr de : List Int} (h : NetOk n C wr de) {i : Nat} (hi : i < n) {e : El} (he : e ∈ (C i).L) : ∃ x, Gm n C x ∧ x ∈ (C i).ops ∧ x.kind = 0 ∧ x.c = e.c ∧ x.o = e.k ∧ x.r = e.r := by
  obtain ⟨P, -, hP⟩ := h.b.line
  obtain ⟨x, hx, x1, x2, x3, x4⟩ := (hP i hi).els e he
  exact ⟨x, (h.b.of i hi).ops x hx, hx, x1, x2, x3, x4⟩

theorem NetOk.tx_mem {n : Nat} {C : Nat → CS} {wr de : List Int} (h : NetOk n C wr de) {i : Nat} (hi : i < n) {r : Int} (hr : r ∈ tx (C i)) : r ∈ wr := by
  obtain ⟨e, he, rfl⟩ := List.mem_map.1 hr
  obtain ⟨x, hx, -, xk, -, -, xr⟩ := h.el hi (List.mem_filter.1 he).1
  have := h.t.run x hx xk
  rw [xr] at this
  exact h.t.mem this.1 this.2

theorem NetOk.rune {n : Nat} {C : Nat → CS} {wr de : List Int} (h : NetOk n C wr de) {i j : Nat} (hi : i < n) (hj : j < n) {e f : El} (he : e ∈ (C i).L) (hf : f ∈ (C j).L) : e.r = f.r ↔ (e.c = f.c ∧ e.k = f.k) := by
  obtain ⟨x, hx, -, xk, x1, x2, x3⟩ := h.el hi he
  obtain ⟨y, hy, -, yk, y1, y2, y3⟩ := h.el hj hf
  constructor
  · intro q
    have : x = y := h.t.one x y hx hy xk yk (by rw [x3, y3, q])
    rw [← x1, ← x2, ← y1, ← y2, this]
    exact ⟨rfl, rfl⟩
  · intro q
    have : x = y := h.b.mark hx hy (by rw [x2, y2, q.2]) (by rw [x1, y1, q.1])
    rw [← x3, ← y3, this]

theorem NetOk.tx_nodup {n : Nat} {C : Nat → CS} {wr de : List Int} (h : NetOk n C wr de) {i : Nat} (hi : i < n) : (tx (C i)).Nodup := by
  unfold tx List.Nodup
  rw [List.pairwise_map]
  have ha : (vis (C i).L).Pairwise (fun x y => ¬ (x.c = y.c ∧ x.k = y.k)) := (h.b.inv i hi).apart.sublist List.filter_sublist
  refine ha.imp_of_mem (fun {a b} ha hb q e => q ((h.rune hi hi (List.mem_filter.1 ha).1 (List.mem_filter.1 hb).1).1 e))

/-- What two copies both have stands in one order. -/
theorem NetOk.common {n : Nat} {C : Nat → CS} {wr de : List Int} (h : NetOk n C wr de) {i j : Nat} (hi : i < n) (hj : j < n) : (tx (C i)).filter (fun r => decide (r ∈ tx (C j))) = (tx (C j)).filter (fun r => decide (r ∈ tx (C i))) := by
  obtain ⟨P, -, hP⟩ := h.b.line
  have hc := rga_common (hP i hi).rga (hP j hj).rga
  obtain ⟨rho, hrho⟩ : ∃ rho : Int × Int → Int, ∀ k, k < n → ∀ e ∈ (C k).L, e.r = rho (e.c, e.k) := by
    classical
    refine ⟨fun m => if hm : ∃ x, Gm n C x ∧ x.kind = 0 ∧ x.c = m.1 ∧ x.o = m.2 then hm.choose.r else 0, fun k hk e he => ?_⟩
    obtain ⟨x, hx, -, xk, x1, x2, x3⟩ := h.el hk he
    have hm : ∃ x, Gm n C x ∧ x.kind = 0 ∧ x.c = (e.c, e.k).1 ∧ x.o = (e.c, e.k).2 := ⟨x, hx, xk, x1, x2⟩
    simp only [dif_pos hm]
    obtain ⟨y1, y2, y3, y4⟩ := hm.choose_spec
    have : hm.choose = x := h.b.mark y1 hx (by rw [y4, x2]) (by rw [y3, x1])
    rw [← x3, ← this]
  have key : ∀ (L : List El) (T : List Int) (q : El → Bool) (Q : Int × Int → Bool), (∀ e ∈ L, e.r = rho (e.c, e.k)) → (∀ e ∈ L, (decide (e.r ∈ T) && !e.d) = (Q (e.c, e.k) && q e)) → ((vis L).map (fun e => e.r)).filter (fun r => decide (r ∈ T)) = ((mks (L.filter q)).filter Q).map rho := by
    intro L T q Q h1 h2
    unfold mks vis
    rw [List.filter_map, List.filter_filter, List.filter_map, List.filter_filter, List.map_map]
    have e1 : L.filter (fun a => ((fun r => decide (r ∈ T)) ∘ fun e => e.r) a && !a.d) = L.filter (fun a => (Q ∘ fun x => (x.c, x.k)) a && q a) := List.filter_congr (fun e he => h2 e he)
    rw [e1]
    apply List.map_congr_left
    intro e he
    exact h1 e (List.mem_filter.1 he).1
  have D : ∀ k, k < n → ∀ e : El, (∃ k', k' < n ∧ e ∈ (C k').L) → (e.r ∈ tx (C k) ↔ ∃ f ∈ (C k).L, f.d = false ∧ (f.c, f.k) = (e.c, e.k)) := by
    rintro k hk e ⟨k', hk', he⟩
    unfold tx
    rw [List.mem_map]
    constructor
    · rintro ⟨f, hf, e1⟩
      obtain ⟨f1, f2⟩ := List.mem_filter.1 hf
      have := (h.rune hk hk' f1 he).1 e1
      exact ⟨f, f1, by simpa using f2, by rw [this.1, this.2]⟩
    · rintro ⟨f, f1, f2, f3⟩
      simp only [Prod.mk.injEq] at f3
      exact ⟨f, List.mem_filter.2 ⟨f1, by simp [f2]⟩, (h.rune hk hk' f1 he).2 f3⟩
  classical
  have self : ∀ k, k < n → ∀ e ∈ (C k).L, ((∃ f ∈ (C k).L, f.d = false ∧ (f.c, f.k) = (e.c, e.k)) ↔ e.d = false) := by
    intro k hk e he
    constructor
    · rintro ⟨f, f1, f2, f3⟩
      simp only [Prod.mk.injEq] at f3
      obtain ⟨A, R, hL⟩ := List.append_of_mem he
      have ha := (h.b.inv k hk).apart
      rw [hL] at ha f1
      obtain ⟨a1, a2⟩ := apart_mem ha
      rcases List.mem_append.1 f1 with f1 | f1
      · exact (a1 f f1 f3).elim
      · rcases List.mem_cons.1 f1 with rfl | f1
        · exact f2
        · exact (a2 f f1 ⟨f3.1.symm, f3.2.symm⟩).elim
    · intro q; exact ⟨e, he, q, rfl⟩
  have hi' := key (C i).L (tx (C j)) (fun z => decide ((z.c, z.k) ∈ mks (C j).L)) (fun m => decide ((∃ f ∈ (C i).L, f.d = false ∧ (f.c, f.k) = m) ∧ ∃ f ∈ (C j).L, f.d = false ∧ (f.c, f.k) = m)) (hrho i hi) (fun e he => by
    rw [Bool.eq_iff_iff]
    simp only [Bool.and_eq_true, decide_eq_true_eq, Bool.not_eq_true', D j hj e ⟨i, hi, he⟩, self i hi e he]
    constructor
    · rintro ⟨q1, q2⟩
      refine ⟨⟨q2, q1⟩, ?_⟩
      obtain ⟨f, f1, -, f3⟩ := q1
      exact List.mem_map.2 ⟨f, f1, f3⟩
    · rintro ⟨⟨q1, q2⟩, -⟩
      exact ⟨q2, q1⟩)
  have hj' := key (C j).L (tx (C i)) (fun z => decide ((z.c, z.k) ∈ mks (C i).L)) (fun m => decide ((∃ f ∈ (C i).L, f.d = false ∧ (f.c, f.k) = m) ∧ ∃ f ∈ (C j).L, f.d = false ∧ (f.c, f.k) = m)) (hrho j hj) (fun e he => by
    rw [Bool.eq_iff_iff]
    simp only [Bool.and_eq_true, decide_eq_true_eq, Bool.not_eq_true', D i hi e ⟨j, hj, he⟩, self j hj e he]
    constructor
    · rintro ⟨q1, q2⟩
      refine ⟨⟨q1, q2⟩, ?_⟩
      obtain ⟨f, f1, -, f3⟩ := q1
      exact List.mem_map.2 ⟨f, f1, f3⟩
    · rintro ⟨⟨q1, q2⟩, -⟩
      exact ⟨q1, q2⟩)
  unfold tx at hi' hj' ⊢
  rw [hi', hj', hc]

/-- One clock, one text. -/
theorem NetOk.same {n : Nat} {C : Nat → CS} {wr de : List Int} (h : NetOk n C wr de) {i j : Nat} (hi : i < n) (hj : j < n) (he : ∀ k, k < n → (C i).cl k = (C j).cl k) : tx (C i) = tx (C j) := by
  obtain ⟨P, -, hP⟩ := h.b.line
  have hops : ∀ x, x ∈ (C i).ops ↔ x ∈ (C j).ops := by
    intro x
    constructor
    · intro hx
      have hg := (h.b.of i hi).ops x hx
      exact h.b.has hj hg (by rw [← he _ hg.lt]; exact h.b.in_cl hi hx)
    · intro hx
      have hg := (h.b.of j hj).ops x hx
      exact h.b.has hi hg (by rw [he _ hg.lt]; exact h.b.in_cl hj hx)
  have hl := line_same (hP i hi) (hP j hj) hops (fun x hx y hy _ _ e1 e2 => h.b.mark ((h.b.of i hi).ops x hx) ((h.b.of i hi).ops y hy) e2 e1)
  have : ∀ L : List El, (vis L).map (fun e => e.r) = ((L.map (fun e => (e.c, e.k, e.r, e.d))).filter (fun t => !t.2.2.2)).map (fun t => t.2.2.1) := by
    intro L
    unfold vis
    rw [List.filter_map, List.map_map]
    rfl
  unfold tx
  rw [this, this, hl]

/-- All clocks count all that was made. -/
def Full (n : Nat) (C : Nat → CS) : Prop := ∀ i, i < n → ∀ j, j < n → (C i).cl j = (C j).cl j

theorem NetOk.full_wt {n : Nat} {C : Nat → CS} {wr de : List Int} (h : NetOk n C wr de) (hf : Full n C) {i : Nat} (hi : i < n) : (C i).wt = [] := by
  cases hw : (C i).wt with
  | nil => rfl
  | cons x l =>
    have hx : x ∈ (C i).wt := by rw [hw]; simp
    have h1 := h.b.wtn i hi x hx
    have hg := (h.b.of i hi).wt x hx
    have h2 := h.b.in_cl hg.lt hg.2
    rw [hf i hi _ hg.lt] at h1
    omega

theorem NetOk.full_tx {n : Nat} {C : Nat → CS} {wr de : List Int} (h : NetOk n C wr de) (hf : Full n C) {i : Nat} (hi : i < n) {r : Int} (hr : r ∈ wr) : r ∈ tx (C i) ↔ r ∉ de := by
  obtain ⟨P, -, hP⟩ := h.b.line
  have all : ∀ x, Gm n C x → x ∈ (C i).ops := fun x hx => h.b.has hi hx (by rw [hf i hi _ hx.lt]; exact h.b.in_cl hx.lt hx.2)
  obtain ⟨b1, b2⟩ := h.t.bound hr
  obtain ⟨x, hx, xk, xr⟩ := h.t.his r b1 b2
  obtain ⟨e, he, e1, e2, e3⟩ := (hP i hi).ops x (all x hx) xk
  rw [h.t.del r]
  constructor
  · intro q
    rintro ⟨a, b, ha, hb, ak, bk, c1, c2, c3⟩
    obtain ⟨f, hf1, f2⟩ := List.mem_map.1 q
    obtain ⟨f3, f4⟩ := List.mem_filter.1 hf1
    have hbx : b = x := h.t.one b x hb hx bk xk (by rw [c3, xr])
    have hd := ((hP i hi).del f f3).2 ⟨a, all a ha, ak, by
      have := (h.rune hi hi f3 he).1 (by rw [f2, e3, xr])
      rw [← c1, hbx, this.1, e1], by
      have := (h.rune hi hi f3 he).1 (by rw [f2, e3, xr])
      rw [← c2, hbx, this.2, e2]⟩
    simp [hd] at f4
  · intro q
    refine List.mem_map.2 ⟨e, List.mem_filter.2 ⟨he, ?_⟩, by rw [e3, xr]⟩
    cases hd : e.d with
    | false => rfl
    | true =>
      obtain ⟨a, ha, ak, a1, a2⟩ := ((hP i hi).del e he).1 hd
      exact (q ⟨a, x, (h.b.of i hi).ops a ha, hx, ak, xk, by rw [a1, e1], by rw [a2, e2], xr⟩).elim

theorem least_nat (P : Nat → Prop) (h : ∃ m, P m) : ∃ m, P m ∧ ∀ k, k < m → ¬ P k := by
  apply Classical.byContradiction
  intro hno
  obtain ⟨m, hm⟩ := h
  have : ∀ m, ¬ P m := by
    intro m
    induction m using Nat.strongRecOn with
    | ind m ih => exact fun hm => hno ⟨m, hm, ih⟩
  exact this m hm

/-- What a copy lacks first: all that it knows of is there. -/
theorem NetOk.lacks {n : Nat} {C : Nat → CS} {wr de : List Int} (h : NetOk n C wr de) {i : Nat} (hi : i < n) (hl : sumTo n (C i).cl < (wr.length : Int) + de.length) : ∃ x, Gm n C x ∧ x.o.toNat - 1 ≠ i ∧ x.num = (C i).cl (x.o.toNat - 1) + 1 ∧ ∀ j, j < n → x.q j ≤ (C i).cl j := by
  have hj : ∃ j, j < n ∧ (C i).cl j < (C j).cl j := by
    apply Classical.byContradiction
    intro hno
    have : sumTo n (fun i => (C i).cl i) = sumTo n (C i).cl := sumTo_congr n (fun j hj => by
      have := h.b.cl_le hi hj
      have h2 : ¬ (C i).cl j < (C j).cl j := fun q => hno ⟨j, hj, q⟩
      omega)
    rw [h.b.sum] at this
    omega
  -- one that lacks, with the least counter
  have hex : ∃ (m : Nat) (x : OpR), Gm n C x ∧ (C i).cl (x.o.toNat - 1) < x.num ∧ x.c.toNat = m := by
    obtain ⟨j, hj, hlt⟩ := hj
    have h0 := h.b.cl0 hi j
    obtain ⟨x, hx, e1, e2⟩ := (h.b.inv j hj).ops.all j (by rw [h.b.cn j hj]; exact hj) ((C i).cl j + 1) (by omega) (by omega)
    have hg := (h.b.of j hj).ops x hx
    exact ⟨_, x, hg, by rw [show x.o.toNat - 1 = j by omega, e2]; omega, rfl⟩
  obtain ⟨m, ⟨x, hx, hlt, hm⟩, hmin⟩ : ∃ m, (∃ x : OpR, Gm n C x ∧ (C i).cl (x.o.toNat - 1) < x.num ∧ x.c.toNat = m) ∧ ∀ k, k < m → ¬ ∃ x : OpR, Gm n C x ∧ (C i).cl (x.o.toNat - 1) < x.num ∧ x.c.toNat = k := by
    exact least_nat _ hex
  have least : ∀ y, Gm n C y → y.c < x.c → y.num ≤ (C i).cl (y.o.toNat - 1) := fun y hy hc => by
    apply Int.not_lt.1
    intro q
    have := hy.1.c
    exact hmin y.c.toNat (by omega) ⟨y, hy, q, rfl⟩
  refine ⟨x, hx, fun q => ?_, ?_, fun j hj => ?_⟩
  · rw [q] at hlt
    have := h.b.in_cl hx.lt hx.2
    rw [q] at this
    omega
  · by_cases q : x.num = 1
    · have := h.b.cl0 hi (x.o.toNat - 1); omega
    · have hn := hx.1.num
      obtain ⟨y, hy, e1, e2⟩ := (h.b.inv _ hx.lt).ops.all (x.o.toNat - 1) (by rw [h.b.cn _ hx.lt]; exact hx.lt) (x.num - 1) (by omega) (by have := h.b.in_cl hx.lt hx.2; omega)
      have hg := (h.b.of _ hx.lt).ops y hy
      have ho := hx.1.o
      have eo : y.o = x.o := by omega
      have := least y hg (h.b.rise y x hg hx eo (by omega))
      rw [eo] at this
      omega
  · by_cases q : x.q j ≤ 0
    · have := h.b.cl0 hi j; omega
    · have hm := h.b.pastm x hx j hj
      obtain ⟨y, hy, e1, e2⟩ := (h.b.inv j hj).ops.all j (by rw [h.b.cn j hj]; exact hj) (x.q j) (by omega) hm
      have hg := (h.b.of j hj).ops y hy
      have eo : y.o.toNat - 1 = j := by omega
      have := least y hg (h.b.pastc x y hx hg (by rw [eo, e2]; exact Int.le_refl _))
      rw [eo, e2] at this
      exact this

/-- Who counts as many as were made counts all. -/
theorem NetOk.full_of {n : Nat} {C : Nat → CS} {wr de : List Int} (h : NetOk n C wr de) (hs : ∀ i, i < n → (wr.length : Int) + de.length ≤ sumTo n (C i).cl) : Full n C := by
  intro i hi j hj
  apply Classical.byContradiction
  intro q
  have h1 := h.b.cl_le hi hj
  have h2 := sumTo_lt n hj (f := (C i).cl) (g := fun i => (C i).cl i) (fun k hk => h.b.cl_le hi hk) (by first | omega | (simp only; omega))
  rw [h.b.sum] at h2
  have := hs i hi
  omega

theorem NetOk.init (n : Nat) (h1 : 1 ≤ n) (h8 : n ≤ 8) (C : Nat → CS) (hC : ∀ i, i < n → C i = ⟨n, i + 1, fun _ => 0, 0, [], [], []⟩) : NetOk n C [] [] := by
  have hG : ∀ x, ¬ Gm n C x := fun x hx => by
    have := hx.2
    rw [hC _ hx.lt] at this
    cases this
  refine ⟨⟨h1, h8, fun i hi => by rw [hC i hi], fun i hi => by rw [hC i hi], fun i hi => ?_, fun i hi => ?_, fun i hi j _ => by rw [hC i hi], fun i hi x hx => (by rw [hC i hi] at hx; cases hx), fun i hi => by rw [hC i hi]; simp, ?_, ⟨fun _ _ => (0, 0), fun x hx => (hG x hx).elim, fun i hi => ?_⟩, fun x _ hx => (hG x hx).elim, fun x hx => (hG x hx).elim, fun x _ hx => (hG x hx).elim, fun x hx => (hG x hx).elim, fun i hi x hx => by rw [hC i hi] at hx; cases hx⟩, ⟨fun k hk => by simp at hk, fun x hx => (hG x hx).elim, fun x _ hx => (hG x hx).elim, fun r h1 h2 => by simp at h2; omega, fun r => ?_⟩, fun i hi x hx => by rw [hC i hi] at hx; cases hx⟩
  · rw [hC i hi]
    exact ⟨⟨by simp, by simp; omega, h8, by simp, by simp, by simp, by simp [vis], by simp⟩, ⟨by simp, fun i _ k k1 k2 => by simp at k2; omega, by simp, by simp⟩, ⟨by simp, by simp, by simp⟩, by simp [sumcl], by simp [sumcl], by simp [Apart]⟩
  · rw [hC i hi]; exact ⟨by simp, by simp⟩
  · have : sumTo n (fun i => (C i).cl i) = sumTo n (fun _ => 0) := sumTo_congr n (fun i hi => by rw [hC i hi])
    rw [this]
    have : ∀ n, sumTo n (fun _ => 0) = 0 := fun n => by
      induction n with
      | zero => rfl
      | succ n ih => simp only [sumTo]; rw [ih]; rfl
    rw [this]; rfl
  · rw [hC i hi]; exact ⟨rga_nil _, by simp, by simp, by simp, by simp⟩
  · constructor
    · intro q; cases q
    · rintro ⟨a, -, ha, -⟩; exact (hG a ha).elim

end Go.Proofs.YtachmkhbbbmioaaGreat
