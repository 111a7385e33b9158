import Derived.Test.YtachmkhbbbmioaaGreatRefTX
import Derived.Deep.AppendLies
import Derived.Test.YtachmkhbbbmioaaGreatRowPX
namespace Go.Proofs.YtachmkhbbbmioaaGreat
open Go.RowKit Go.Shelf

theorem flatten_set {k : Nat} : ∀ {xs : List (List Value)} {i j : Nat} {x : List Value} {y : Value}, (∀ x ∈ xs, x.length = k) → xs[i]? = some x → j < k → (xs.set i (x.set j y)).flatten = xs.flatten.set (i * k + j) y
  | [], i, j, x, y, _, hi, _ => by simp at hi
  | z :: xs, 0, j, x, y, h, hi, hj => by
    simp at hi
    subst hi
    have hz := h z (by simp)
    rw [List.set_cons_zero, List.flatten_cons, List.flatten_cons, Nat.zero_mul, Nat.zero_add, List.set_append_left _ _ (by omega)]
  | z :: xs, i + 1, j, x, y, h, hi, hj => by
    have hz := h z (by simp)
    rw [List.set_cons_succ, List.flatten_cons, List.flatten_cons, flatten_set (fun q hq => h q (by simp [hq])) (by simpa using hi) hj, List.set_append_right _ _ (by rw [hz, Nat.add_mul]; omega), hz,
      show (i + 1) * k + j - k = i * k + j by rw [Nat.add_mul]; omega]

/-- A cell of a row is written. -/
theorem RowAt.set {e : TypeId} {k : Nat} {g n cap : Nat} {xs : List (List Value)} {w : World} (h : RowAt e k (.slice (some ⟨g, 0, none⟩) n cap) xs w) {i j : Nat} {x : List Value} {y : Value} (hi : xs[i]? = some x) (hj : j < k) :
    RowAt e k (.slice (some ⟨g, 0, none⟩) n cap) (xs.set i (x.set j y)) (w.setCell ⟨g, i * k + j, none⟩ y) := by
  have hx := h.2 x (List.mem_of_getElem? hi)
  have hall : ∀ z ∈ xs.set i (x.set j y), z.length = k := by
    intro z hz
    rcases List.mem_or_eq_of_mem_set hz with hz | rfl
    · exact h.2 z hz
    · simp [hx]
  refine ⟨⟨by rw [flat_len hall], ?_⟩, hall⟩
  rcases h.1.2 with ⟨h1, -⟩ | ⟨g', cap', cur, h1, h2, h3, h4, h5, h6, h7⟩
  · cases h1
  · cases h1
    refine .inr ⟨g, cap, cur.setIfInBounds (i * k + j) y, by simp, h2, set_blk h3, by simpa using h4, h5, by simpa using h6, ?_⟩
    rw [Array.toList_setIfInBounds, List.take_set, flatten_set h.2 hi hj, ← h7]
    simp

theorem RowAt.ne {e e' : TypeId} {k k' : Nat} {v v' : Value} {xs xs' : List (List Value)} {w : World} (h : RowAt e k v xs w) (h' : RowAt e' k' v' xs' w) (he : e ≠ e') {g : Nat} (hg : v.ownBlock = some g) : v'.ownBlock ≠ some g := by
  intro q
  obtain ⟨c, h1⟩ := h.blk hg
  obtain ⟨c', h2⟩ := h'.blk q
  rw [h1] at h2
  cases h2
  exact he rfl

theorem RowAt.neBlk {e e' : TypeId} {k : Nat} {v : Value} {xs : List (List Value)} {w : World} (h : RowAt e k v xs w) {b : Nat} {c : Array Value} (hb : w.heap[b]? = some (.cells c e')) (he : e ≠ e') : v.ownBlock ≠ some b := by
  intro q
  obtain ⟨c', h2⟩ := h.blk q
  rw [h2] at hb
  cases hb
  exact he rfl

/-- A field of the copy is written: the rows stand. -/
theorem RefAt.rows {yb : Nat} {S : CS} {vc vl vw vL : Value} {log wt : List (List Value)} {w w' : World} (h : RefAt yb S vc vl vw vL log wt w) (e : ∀ k, k ≠ yb → w'.heap[k]? = w.heap[k]?) :
    RowAt 3 1 vc (ckRow S) w' ∧ RowAt 88 8 vl log w' ∧ RowAt 88 8 vw wt w' ∧ RowAt 130 4 vL (S.L.map elCells) w' :=
  ⟨h.ck.kept (fun g hg => e g (fun q => h.ck.neBlk h.cp (by decide) (q ▸ hg))), h.lg.kept (fun g hg => e g (fun q => h.lg.neBlk h.cp (by decide) (q ▸ hg))),
   h.wt.kept (fun g hg => e g (fun q => h.wt.neBlk h.cp (by decide) (q ▸ hg))), h.ln.kept (fun g hg => e g (fun q => h.ln.neBlk h.cp (by decide) (q ▸ hg)))⟩

theorem ckRow_bump (S : CS) {q : Nat} (hq : q < S.n) : (ckRow S).set q ([Value.int .i64 (S.cl q)].set 0 (.int .i64 (S.cl q + 1))) = ckRow { S with cl := bump S.cl q } := by
  apply List.ext_getElem?
  intro i
  rw [List.getElem?_set]
  simp only [ckRow, List.length_map, List.length_range]
  by_cases hi : q = i
  · subst hi
    simp [hq, bump]
  · simp only [if_neg hi, List.getElem?_map]
    by_cases h2 : i < S.n
    · rw [List.getElem?_range h2]
      simp [bump, Ne.symm hi]
    · rw [List.getElem?_eq_none (by simp; omega)]
      rfl

/-- One of the clock's numbers is counted up. -/
theorem RefAt.bumped {yb : Nat} {S : CS} {vl vw vL : Value} {log wt : List (List Value)} {w : World} {g cap q : Nat} (h : RefAt yb S (.slice (some ⟨g, 0, none⟩) S.n cap) vl vw vL log wt w) (hq : q < S.n) :
    RefAt yb { S with cl := bump S.cl q } (.slice (some ⟨g, 0, none⟩) S.n cap) vl vw vL log wt (w.setCell ⟨g, q, none⟩ (.int .i64 (S.cl q + 1))) := by
  have e : ∀ k, k ≠ g → (w.setCell ⟨g, q, none⟩ (.int .i64 (S.cl q + 1))).heap[k]? = w.heap[k]? := fun k hk => Below.heap_setCell _ _ _ _ hk
  have hset := h.ck.set (i := q) (j := 0) (y := .int .i64 (S.cl q + 1)) (ckRow_at S hq) (by omega)
  rw [ckRow_bump S hq, Nat.mul_one, Nat.add_zero] at hset
  refine ⟨?_, hset, h.lg.kept (fun b hb => e b ?_), h.wt.kept (fun b hb => e b ?_), h.ln.kept (fun b hb => e b ?_), h.ap⟩
  · rw [e yb (fun q => h.ck.neBlk h.cp (by decide) (q ▸ rfl))]; exact h.cp
  · exact fun q => h.lg.ne h.ck (by decide) hb (q ▸ rfl)
  · exact fun q => h.wt.ne h.ck (by decide) hb (q ▸ rfl)
  · exact fun q => h.ln.ne h.ck (by decide) hb (q ▸ rfl)

/-- The greatest counter is written. -/
theorem RefAt.most {yb : Nat} {S : CS} {vc vl vw vL : Value} {log wt : List (List Value)} {w : World} (h : RefAt yb S vc vl vw vL log wt w) (x : Int) :
    RefAt yb { S with g := x } vc vl vw vL log wt (w.setCell ⟨yb, 3, none⟩ (.int .i64 x)) := by
  obtain ⟨h1, h2, h3, h4⟩ := h.rows (w' := w.setCell ⟨yb, 3, none⟩ (.int .i64 x)) (fun k hk => Below.heap_setCell _ _ _ _ hk)
  exact ⟨(set_blk h.cp).trans rfl, h1, h2, h3, h4, h.ap⟩

/-- The log is written. -/
theorem RefAt.logged {yb : Nat} {S : CS} {vc vl vw vL vl' : Value} {log wt log' : List (List Value)} {w : World} (h : RefAt yb S vc vl vw vL log wt w) (hl : RowAt 88 8 vl' log' w) (ap : ∀ g, vl'.ownBlock = some g → vw.ownBlock ≠ some g) :
    RefAt yb S vc vl' vw vL log' wt (w.setCell ⟨yb, 4, none⟩ vl') := by
  have e : ∀ k, k ≠ yb → (w.setCell ⟨yb, 4, none⟩ vl').heap[k]? = w.heap[k]? := fun k hk => Below.heap_setCell _ _ _ _ hk
  obtain ⟨h1, h2, h3, h4⟩ := h.rows e
  exact ⟨(set_blk h.cp).trans rfl, h1, hl.kept (fun g hg => e g (fun q => hl.neBlk h.cp (by decide) (q ▸ hg))), h3, h4, ap⟩

/-- The line is written. -/
theorem RefAt.lined {yb : Nat} {S : CS} {vc vl vw vL vL' : Value} {log wt : List (List Value)} {L' : List El} {w : World} (h : RefAt yb S vc vl vw vL log wt w) (hl : RowAt 130 4 vL' (L'.map elCells) w) :
    RefAt yb { S with L := L' } vc vl vw vL' log wt (w.setCell ⟨yb, 6, none⟩ vL') := by
  have e : ∀ k, k ≠ yb → (w.setCell ⟨yb, 6, none⟩ vL').heap[k]? = w.heap[k]? := fun k hk => Below.heap_setCell _ _ _ _ hk
  obtain ⟨h1, h2, h3, h4⟩ := h.rows e
  exact ⟨(set_blk h.cp).trans rfl, h1, h2, h3, hl.kept (fun g hg => e g (fun q => hl.neBlk h.cp (by decide) (q ▸ hg))), h.ap⟩

theorem el_gone {A R : List El} {x : El} : ((A ++ x :: R).map elCells).set A.length ((elCells x).set 3 (.bool true)) = (A ++ gone x :: R).map elCells := by
  rw [List.map_append, List.map_cons, List.map_append, List.map_cons, List.set_append_right _ _ (by simp)]
  simp [elCells, gone]

/-- An element is struck. -/
theorem RefAt.struck {yb : Nat} {S : CS} {vc vl vw : Value} {log wt : List (List Value)} {w : World} {g n cap : Nat} {A R : List El} {x : El} (h : RefAt yb S vc vl vw (.slice (some ⟨g, 0, none⟩) n cap) log wt w) (hL : S.L = A ++ x :: R) :
    RefAt yb { S with L := A ++ gone x :: R } vc vl vw (.slice (some ⟨g, 0, none⟩) n cap) log wt (w.setCell ⟨g, A.length * 4 + 3, none⟩ (.bool true)) := by
  have e : ∀ k, k ≠ g → (w.setCell ⟨g, A.length * 4 + 3, none⟩ (.bool true)).heap[k]? = w.heap[k]? := fun k hk => Below.heap_setCell _ _ _ _ hk
  have hset := h.ln.set (i := A.length) (j := 3) (x := elCells x) (y := .bool true) (by rw [hL]; simp) (by omega)
  rw [hL, el_gone] at hset
  refine ⟨?_, h.ck.kept (fun b hb => e b ?_), h.lg.kept (fun b hb => e b ?_), h.wt.kept (fun b hb => e b ?_), hset, h.ap⟩
  · rw [e yb (fun q => h.ln.neBlk h.cp (by decide) (q ▸ rfl))]; exact h.cp
  · exact fun q => h.ck.ne h.ln (by decide) hb (q ▸ rfl)
  · exact fun q => h.lg.ne h.ln (by decide) hb (q ▸ rfl)
  · exact fun q => h.wt.ne h.ln (by decide) hb (q ▸ rfl)

end Go.Proofs.YtachmkhbbbmioaaGreat

namespace Go.Proofs.YtachmkhbbbmioaaGreat
open Go.RowKit Go.Shelf

theorem flat_take {k : Nat} : ∀ {xs : List (List Value)} {p : Nat}, (∀ x ∈ xs, x.length = k) → (xs.take p).flatten = xs.flatten.take (p * k)
  | [], p, _ => by simp
  | x :: xs, 0, _ => by simp
  | x :: xs, p + 1, h => by
    have hx := h x (by simp)
    rw [List.take_succ_cons, List.flatten_cons, List.flatten_cons, flat_take (fun y hy => h y (by simp [hy])), List.take_append, hx, show (p + 1) * k - k = p * k by rw [Nat.add_mul]; omega, List.take_of_length_le (l := x) (by rw [hx, Nat.add_mul]; omega)]

theorem flat_drop {k : Nat} : ∀ {xs : List (List Value)} {p : Nat}, (∀ x ∈ xs, x.length = k) → (xs.drop p).flatten = xs.flatten.drop (p * k)
  | [], p, _ => by simp
  | x :: xs, 0, _ => by simp
  | x :: xs, p + 1, h => by
    have hx := h x (by simp)
    rw [List.drop_succ_cons, List.flatten_cons, flat_drop (fun y hy => h y (by simp [hy])), List.drop_append, hx, show (p + 1) * k - k = p * k by rw [Nat.add_mul]; omega, List.drop_of_length_le (l := x) (by rw [hx, Nat.add_mul]; omega), List.nil_append]

/-- A piece of a row. -/
theorem RowAt.piece {e : TypeId} {k : Nat} {v : Value} {xs : List (List Value)} {w : World} (h : RowAt e k v xs w) (lo hi : Nat) (h1 : lo ≤ hi) (h2 : hi ≤ xs.length) :
    ∃ a c, v = .slice a xs.length c ∧ xs.length ≤ c ∧ ∀ w', (∀ g, v.ownBlock = some g → w'.heap[g]? = w.heap[g]?) → SrcAt w' (sliced a lo hi c k) ((xs.take hi).drop lo) := by
  rcases h.1.2 with ⟨rfl, hn⟩ | ⟨g, cap, cur, rfl, -, hg, hc, -, -, hcur⟩
  · obtain rfl : xs = [] := List.eq_nil_of_length_eq_zero hn
    refine ⟨none, 0, rfl, Nat.le_refl _, fun w' _ => .inl ⟨?_, by simp⟩⟩
    have e1 : hi = 0 := by simpa using h2
    have e2 : lo = 0 := by omega
    subst e1 e2
    simp [sliced]
  · refine ⟨some ⟨g, 0, none⟩, cap, rfl, hc, fun w' hw => .inr ?_⟩
    have hlen : ((xs.take hi).drop lo).length = hi - lo := by simp; omega
    have hk : ∀ x ∈ xs.take hi, x.length = k := fun x hx => h.2 x (List.mem_of_mem_take hx)
    have hcell : ∀ (j : Nat) (x : Value), ((xs.take hi).drop lo).flatten[j]? = some x → w'.cell? ⟨g, lo * k + j, none⟩ = some x := by
      intro j x hj
      rw [flat_drop hk, flat_take h.2, List.getElem?_drop, List.getElem?_take] at hj
      split at hj
      · rw [← hcur, List.getElem?_take] at hj
        split at hj
        · rw [Array.getElem?_toList] at hj
          exact (cell_blk ((hw g rfl).trans hg) (lo * k + j)).trans hj
        · cases hj
      · cases hj
    by_cases hcl : cap = lo
    · refine ⟨⟨g, 0, none⟩, cap - lo, by simp only [sliced, if_pos hcl, hlen], fun j x hj => ?_⟩
      have h0 : (xs.take hi).drop lo = [] := List.eq_nil_of_length_eq_zero (by omega)
      rw [h0] at hj
      simp at hj
    · refine ⟨(⟨g, 0, none⟩ : Addr).add (lo * k), cap - lo, by simp [sliced, hcl, hlen], fun j x hj => ?_⟩
      rw [at_add, at_add, Nat.zero_add]; exact hcell j x hj

theorem RowAt.lo {e t : TypeId} {k : Nat} {v : Value} {xs : List (List Value)} {w : World} (h : RowAt e k v xs w) (ht : Tryz.prog.underlying t = some (.slice (Tryz.prog.elem t))) (hz : ∀ w, (sizeOf (Tryz.prog.elem t)).run Tryz.prog w = .ok k w) (p : Nat) (hp : p ≤ xs.length) :
    ∃ u, (∀ w', (Instr.slice t v none (some (.int .i64 (p : Int))) none).run Tryz.prog w' = .ok u w') ∧ ∀ w', (∀ g, v.ownBlock = some g → w'.heap[g]? = w.heap[g]?) → SrcAt w' u (xs.take p) := by
  obtain ⟨a, c, rfl, hc, hs⟩ := h.piece 0 p (Nat.zero_le _) hp
  refine ⟨sliced a 0 p c k, fun w' => ?_, fun w' hw => by simpa using hs w' hw⟩
  rw [run_slice_h w' t a xs.length c ht .i64 (p : Int) (by omega) (by omega), hz]
  simp [Result.andThen]

theorem RowAt.hi {e t : TypeId} {k : Nat} {v : Value} {xs : List (List Value)} {w : World} (h : RowAt e k v xs w) (ht : Tryz.prog.underlying t = some (.slice (Tryz.prog.elem t))) (hz : ∀ w, (sizeOf (Tryz.prog.elem t)).run Tryz.prog w = .ok k w) (p : Nat) (hp : p ≤ xs.length) :
    ∃ u, (∀ w', (Instr.slice t v (some (.int .i64 (p : Int))) none none).run Tryz.prog w' = .ok u w') ∧ ∀ w', (∀ g, v.ownBlock = some g → w'.heap[g]? = w.heap[g]?) → SrcAt w' u (xs.drop p) := by
  obtain ⟨a, c, rfl, hc, hs⟩ := h.piece p xs.length hp (Nat.le_refl _)
  refine ⟨sliced a p xs.length c k, fun w' => ?_, fun w' hw => by simpa using hs w' hw⟩
  rw [run_slice_l w' t a xs.length c ht .i64 (p : Int) (by omega) (by omega), hz]
  simp [Result.andThen]

end Go.Proofs.YtachmkhbbbmioaaGreat
