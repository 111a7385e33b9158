import Derived.Test.YtachmkhbbbmioaaGreatKeep
namespace Go.Proofs.YtachmkhbbbmioaaGreat
open Go.RowKit Go.Shelf

def twoCells (x : Pr) : List Value := [.pointer (some ⟨x.cb, 0, none⟩), .pointer (some ⟨x.yb, 0, none⟩)]
def lawOwn (wb : Nat) (vl vi : Value) : List Nat := wb :: (vl.ownBlock.toList ++ vi.ownBlock.toList)

/-- The law's world: its copies and lists; no block is held by two. -/
structure LawAt (base wb : Nat) (vl vi : Value) (prs : List Pr) (irs : List IR) (w : World) : Prop where
  cp : w.heap[wb]? = some (.cells #[vl, .slice none 0 0, vi, .slice none 0 0] 33)
  l : RowAt 39 2 vl (prs.map twoCells) w
  i : RowAt 95 5 vi (irs.map irCells) w
  pr : ∀ (j : Nat) (x : Pr), prs[j]? = some x → PairAt x w
  ir : ∀ (j : Nat) (r : IR), irs[j]? = some r → IntsAt r w
  ow : ∃ ow : Nat → Nat, (∀ k ∈ lawOwn wb vl vi, ow k = 0 ∧ base ≤ k) ∧ (∀ (j : Nat) (x : Pr), prs[j]? = some x → ∀ k ∈ x.own, ow k = 2 * j + 1 ∧ base ≤ k) ∧ (∀ (j : Nat) (r : IR), irs[j]? = some r → ∀ k ∈ r.own, ow k = 2 * j + 2 ∧ base ≤ k)

structure LawLt (H wb : Nat) (vl vi : Value) (prs : List Pr) (irs : List IR) : Prop where
  l : ∀ k ∈ lawOwn wb vl vi, k < H
  pr : ∀ (j : Nat) (x : Pr), prs[j]? = some x → ∀ k ∈ x.own, k < H
  ir : ∀ (j : Nat) (r : IR), irs[j]? = some r → ∀ k ∈ r.own, k < H

theorem LawAt.lts {base wb : Nat} {vl vi : Value} {prs : List Pr} {irs : List IR} {w : World} (h : LawAt base wb vl vi prs irs w) : LawLt w.heap.size wb vl vi prs irs := by
  refine ⟨fun k hk => ?_, fun j x hj k hk => (h.pr j x hj).lt k hk, fun j r hj k hk => (h.ir j r hj).lt k hk⟩
  simp only [lawOwn, List.mem_cons, List.mem_append, Option.mem_toList] at hk
  rcases hk with rfl | hk | hk
  · exact lt_of_heap h.cp
  · exact h.l.lt hk
  · exact h.i.lt hk

theorem LawAt.kept {base wb : Nat} {vl vi : Value} {prs : List Pr} {irs : List IR} {w w' : World} (h : LawAt base wb vl vi prs irs w) (e : ∀ k, k < w.heap.size → w'.heap[k]? = w.heap[k]?) : LawAt base wb vl vi prs irs w' := by
  have hl := h.lts
  exact ⟨(e wb (lt_of_heap h.cp)).trans h.cp, h.l.kept (fun g hg => e g (h.l.lt hg)), h.i.kept (fun g hg => e g (h.i.lt hg)), fun j x hj => (h.pr j x hj).kept (fun k hk => e k (hl.pr j x hj k hk)), fun j r hj => (h.ir j r hj).kept (fun k hk => e k (hl.ir j r hj k hk)), h.ow⟩

theorem LawAt.below {base wb : Nat} {vl vi : Value} {prs : List Pr} {irs : List IR} {w w' : World} (h : LawAt base wb vl vi prs irs w) (g : Below w.heap.size w w') : LawAt base wb vl vi prs irs w' := h.kept (fun k hk => g.block k hk)
theorem LawAt.grown {base wb : Nat} {vl vi : Value} {prs : List Pr} {irs : List IR} {w w' : World} (h : LawAt base wb vl vi prs irs w) (g : w.grownBy w' none) : LawAt base wb vl vi prs irs w' := h.kept (fun k hk => g.block k hk (by simp))

theorem two_set {prs : List Pr} {j : Nat} {x x' : Pr} (hj : prs[j]? = some x) (h1 : x'.cb = x.cb) (h2 : x'.yb = x.yb) : (prs.set j x').map twoCells = prs.map twoCells := by
  apply List.ext_getElem?
  intro i
  rw [List.getElem?_map, List.getElem?_map, List.getElem?_set]
  by_cases q : j = i
  · subst q
    obtain ⟨hl, hx⟩ := List.getElem?_eq_some_iff.1 hj
    simp [hl, hx, twoCells, h1, h2]
  · simp [q]

/-- One pair has been called. -/
theorem LawAt.after {base wb : Nat} {vl vi : Value} {prs : List Pr} {irs : List IR} {w w2 : World} {j : Nat} {x : Pr} (h : LawAt base wb vl vi prs irs w) (hj : prs[j]? = some x) (hA : After x w w2) (hb : base ≤ w.heap.size) :
    ∃ x', LawAt base wb vl vi (prs.set j x') irs w2 ∧ Below base w w2 := by
  obtain ⟨x', hP, h1, h2, hF, hO⟩ := hA
  obtain ⟨ow, o1, o2, o3⟩ := h.ow
  have hl := h.lts
  have hjl := (List.getElem?_eq_some_iff.1 hj).1
  have key : ∀ k, k < w.heap.size → ow k ≠ 2 * j + 1 → w2.heap[k]? = w.heap[k]? := fun k hk hn => hF.block k hk (fun q => hn (o2 j x hj k q).1)
  refine ⟨x', ⟨?_, ?_, ?_, ?_, ?_, fun k => if k < w.heap.size then ow k else 2 * j + 1, ?_, ?_, ?_⟩, ?_⟩
  · exact (key wb (lt_of_heap h.cp) (by rw [(o1 wb (by simp [lawOwn])).1]; omega)).trans h.cp
  · rw [two_set hj h1 h2]
    exact h.l.kept (fun g hg => key g (h.l.lt hg) (by rw [(o1 g (by simp [lawOwn, hg])).1]; omega))
  · exact h.i.kept (fun g hg => key g (h.i.lt hg) (by rw [(o1 g (by simp [lawOwn, hg])).1]; omega))
  · intro i y hi
    rw [List.getElem?_set] at hi
    by_cases q : j = i
    · subst q
      simp [hjl] at hi
      subst hi
      exact hP
    · rw [if_neg q] at hi
      exact (h.pr i y hi).kept (fun k hk => key k (hl.pr i y hi k hk) (by rw [(o2 i y hi k hk).1]; omega))
  · intro i r hi
    exact (h.ir i r hi).kept (fun k hk => key k (hl.ir i r hi k hk) (by rw [(o3 i r hi k hk).1]; omega))
  · intro k hk
    simp only [if_pos (hl.l k hk)]
    exact o1 k hk
  · intro i y hi k hk
    rw [List.getElem?_set] at hi
    by_cases q : j = i
    · subst q
      simp [hjl] at hi
      subst hi
      rcases hO k hk with hk' | hk'
      · simp only [if_pos (hl.pr j x hj k hk')]
        exact o2 j x hj k hk'
      · simp only [if_neg (show ¬ k < w.heap.size by omega)]
        exact ⟨by first | rfl | trivial, by omega⟩
    · rw [if_neg q] at hi
      simp only [if_pos (hl.pr i y hi k hk)]
      exact o2 i y hi k hk
  · intro i r hi k hk
    simp only [if_pos (hl.ir i r hi k hk)]
    exact o3 i r hi k hk
  · exact hF.toBelow hb (fun k hk => (o2 j x hj k hk).2)

/-- A list has been kept. -/
theorem LawAt.keep {base wb H g : Nat} {vl vi vi' : Value} {prs : List Pr} {irs : List IR} {r : IR} {w w' : World} (h : LawAt base wb vl vi prs irs w) (hH : LawLt H wb vl vi prs irs) (hg : H ≤ g) (hbH : base ≤ H) (hHw : H ≤ w.heap.size)
    (hr : IntsAt r w') (hc : w'.heap[wb]? = some (.cells #[vl, .slice none 0 0, vi', .slice none 0 0] 33)) (hrow : RowAt 95 5 vi' ((irs ++ [r]).map irCells) w')
    (hF : Fr (wb :: g :: vi.ownBlock.toList) w w') (h1 : ∀ k ∈ r.own, k = g ∨ w.heap.size ≤ k) (h2 : ∀ k, vi'.ownBlock = some k → vi.ownBlock = some k ∨ w.heap.size ≤ k) : LawAt base wb vl vi' prs (irs ++ [r]) w' ∧ Below base w w' := by
  obtain ⟨ow, o1, o2, o3⟩ := h.ow
  have hvi : ∀ k, vi.ownBlock = some k → ow k = 0 ∧ base ≤ k := fun k hk => o1 k (by simp [lawOwn, hk])
  have key : ∀ k, k < H → ow k ≠ 0 → w'.heap[k]? = w.heap[k]? := fun k hk hn => hF.block k (by omega) (fun q => by
    simp only [List.mem_cons, Option.mem_toList] at q
    rcases q with rfl | rfl | q
    · exact hn (o1 _ (by simp [lawOwn])).1
    · omega
    · exact hn (hvi k q).1)
  have hri : ∀ k ∈ r.own, H ≤ k := fun k hk => by rcases h1 k hk with q | q <;> omega
  have hvt : ∀ k, vi'.ownBlock = some k → ¬ k ∈ r.own := fun k hk q => by
    have hk2 : ∃ c, w'.heap[k]? = some (.cells c 3) := by
      simp only [IR.own, List.mem_append, Option.mem_toList] at q
      rcases q with q | q | q | q
      · exact hr.l.blk q
      · exact hr.a.blk q
      · exact hr.b.blk q
      · exact hr.c.blk q
    obtain ⟨c, hc1⟩ := hk2
    exact hrow.neBlk hc1 (by decide) hk
  refine ⟨⟨hc, ?_, hrow, ?_, ?_, fun k => if k ∈ r.own then 2 * irs.length + 2 else if k < H then ow k else 0, ?_, ?_, ?_⟩, ?_⟩
  · refine h.l.kept (fun b hb => hF.block b (h.l.lt hb) (fun q => ?_))
    simp only [List.mem_cons, Option.mem_toList] at q
    rcases q with rfl | rfl | q
    · exact h.l.neBlk h.cp (by decide) hb
    · have := hH.l b (by simp [lawOwn, hb]); omega
    · exact h.l.ne h.i (by decide) hb q
  · intro j x hj
    exact (h.pr j x hj).kept (fun k hk => key k (hH.pr j x hj k hk) (by rw [(o2 j x hj k hk).1]; omega))
  · intro j q hj
    rw [List.getElem?_append] at hj
    split at hj
    · exact (h.ir j q hj).kept (fun k hk => key k (hH.ir j q hj k hk) (by rw [(o3 j q hj k hk).1]; omega))
    · have : q = r := by
        rename_i hlt
        rcases Nat.eq_zero_or_pos (j - irs.length) with e | e
        · rw [e] at hj; simpa using hj.symm
        · rw [List.getElem?_eq_none (by simp; omega)] at hj; cases hj
      subst this
      exact hr
  · intro k hk
    simp only [lawOwn, List.mem_cons, List.mem_append, Option.mem_toList] at hk
    rcases hk with rfl | hk | hk
    · have hlt := hH.l k (by simp [lawOwn])
      simp only [if_neg (show ¬ k ∈ r.own from fun q => by have := hri k q; omega), if_pos hlt]
      exact o1 k (by simp [lawOwn])
    · have hlt := hH.l k (by simp [lawOwn, hk])
      simp only [if_neg (show ¬ k ∈ r.own from fun q => by have := hri k q; omega), if_pos hlt]
      exact o1 k (by simp [lawOwn, hk])
    · simp only [if_neg (hvt k hk)]
      rcases h2 k hk with q | q
      · have hlt := hH.l k (by simp [lawOwn, q])
        simp only [if_pos hlt]
        exact hvi k q
      · simp only [if_neg (show ¬ k < H by omega)]
        exact ⟨by first | rfl | trivial, by omega⟩
  · intro j x hj k hk
    have hlt := hH.pr j x hj k hk
    simp only [if_neg (show ¬ k ∈ r.own from fun q => by have := hri k q; omega), if_pos hlt]
    exact o2 j x hj k hk
  · intro j q hj k hk
    rw [List.getElem?_append] at hj
    split at hj
    · have hlt := hH.ir j q hj k hk
      simp only [if_neg (show ¬ k ∈ r.own from fun p => by have := hri k p; omega), if_pos hlt]
      exact o3 j q hj k hk
    · have hjr : q = r ∧ j = irs.length := by
        rename_i hlt
        rcases Nat.eq_zero_or_pos (j - irs.length) with e | e
        · rw [e] at hj; exact ⟨by simpa using hj.symm, by omega⟩
        · rw [List.getElem?_eq_none (by simp; omega)] at hj; cases hj
      obtain ⟨rfl, rfl⟩ := hjr
      simp only [if_pos hk]
      exact ⟨by first | rfl | trivial, by have := hri k hk; omega⟩
  · refine hF.toBelow (by omega) (fun k hk => ?_)
    simp only [List.mem_cons, Option.mem_toList] at hk
    rcases hk with rfl | rfl | hk
    · exact (o1 _ (by simp [lawOwn])).2
    · omega
    · exact (hvi k hk).2

/-- A pair has come. -/
theorem LawAt.more {base wb : Nat} {vl vl' vi : Value} {prs : List Pr} {irs : List IR} {x : Pr} {w w' : World} (h : LawAt base wb vl vi prs irs w) (hbw : base ≤ w.heap.size) (hx : PairAt x w') (hxn : ∀ k ∈ x.own, w.heap.size ≤ k)
    (hc : w'.heap[wb]? = some (.cells #[vl', .slice none 0 0, vi, .slice none 0 0] 33)) (hrow : RowAt 39 2 vl' ((prs ++ [x]).map twoCells) w')
    (hF : Fr (wb :: vl.ownBlock.toList) w w') (h2 : ∀ k, vl'.ownBlock = some k → vl.ownBlock = some k ∨ w.heap.size ≤ k ∧ ¬ k ∈ x.own) : LawAt base wb vl' vi (prs ++ [x]) irs w' ∧ Below base w w' := by
  obtain ⟨ow, o1, o2, o3⟩ := h.ow
  have hH := h.lts
  have hvl : ∀ k, vl.ownBlock = some k → ow k = 0 ∧ base ≤ k := fun k hk => o1 k (by simp [lawOwn, hk])
  have key : ∀ k, k < w.heap.size → ow k ≠ 0 → w'.heap[k]? = w.heap[k]? := fun k hk hn => hF.block k hk (fun q => by
    simp only [List.mem_cons, Option.mem_toList] at q
    rcases q with rfl | q
    · exact hn (o1 _ (by simp [lawOwn])).1
    · exact hn (hvl k q).1)
  refine ⟨⟨hc, hrow, ?_, ?_, ?_, fun k => if k ∈ x.own then 2 * prs.length + 1 else if k < w.heap.size then ow k else 0, ?_, ?_, ?_⟩, ?_⟩
  · refine h.i.kept (fun b hb => hF.block b (h.i.lt hb) (fun q => ?_))
    simp only [List.mem_cons, Option.mem_toList] at q
    rcases q with rfl | q
    · exact h.i.neBlk h.cp (by decide) hb
    · exact h.i.ne h.l (by decide) hb q
  · intro j y hj
    rw [List.getElem?_append] at hj
    split at hj
    · exact (h.pr j y hj).kept (fun k hk => key k (hH.pr j y hj k hk) (by rw [(o2 j y hj k hk).1]; omega))
    · have : y = x := by
        rename_i hlt
        rcases Nat.eq_zero_or_pos (j - prs.length) with e | e
        · rw [e] at hj; simpa using hj.symm
        · rw [List.getElem?_eq_none (by simp; omega)] at hj; cases hj
      subst this
      exact hx
  · intro j r hj
    exact (h.ir j r hj).kept (fun k hk => key k (hH.ir j r hj k hk) (by rw [(o3 j r hj k hk).1]; omega))
  · intro k hk
    simp only [lawOwn, List.mem_cons, List.mem_append, Option.mem_toList] at hk
    have old : ∀ k, k < w.heap.size → (ow k = 0 ∧ base ≤ k) → (if k ∈ x.own then 2 * prs.length + 1 else if k < w.heap.size then ow k else 0) = 0 ∧ base ≤ k := fun k hk ho => by
      simp only [if_neg (show ¬ k ∈ x.own from fun q => by have := hxn k q; omega), if_pos hk]
      exact ho
    rcases hk with rfl | hk | hk
    · exact old k (hH.l k (by simp [lawOwn])) (o1 k (by simp [lawOwn]))
    · rcases h2 k hk with q | ⟨q, q2⟩
      · exact old k (hH.l k (by simp [lawOwn, q])) (hvl k q)
      · simp only [if_neg q2, if_neg (show ¬ k < w.heap.size by omega)]
        exact ⟨by first | rfl | trivial, by omega⟩
    · exact old k (hH.l k (by simp [lawOwn, hk])) (o1 k (by simp [lawOwn, hk]))
  · intro j y hj k hk
    rw [List.getElem?_append] at hj
    split at hj
    · have hlt := hH.pr j y hj k hk
      simp only [if_neg (show ¬ k ∈ x.own from fun p => by have := hxn k p; omega), if_pos hlt]
      exact o2 j y hj k hk
    · have hjr : y = x ∧ j = prs.length := by
        rename_i hlt
        rcases Nat.eq_zero_or_pos (j - prs.length) with e | e
        · rw [e] at hj; exact ⟨by simpa using hj.symm, by omega⟩
        · rw [List.getElem?_eq_none (by simp; omega)] at hj; cases hj
      obtain ⟨rfl, rfl⟩ := hjr
      simp only [if_pos hk]
      exact ⟨by first | rfl | trivial, by have := hxn k hk; omega⟩
  · intro j r hj k hk
    have hlt := hH.ir j r hj k hk
    simp only [if_neg (show ¬ k ∈ x.own from fun p => by have := hxn k p; omega), if_pos hlt]
    exact o3 j r hj k hk
  · refine hF.toBelow hbw (fun k hk => ?_)
    simp only [List.mem_cons, Option.mem_toList] at hk
    rcases hk with rfl | hk
    · exact (o1 _ (by simp [lawOwn])).2
    · exact (hvl k hk).2

end Go.Proofs.YtachmkhbbbmioaaGreat
