import Derived.Test.YtachmkhbbbmioaaGreatRowP
namespace Go.Proofs.YtachmkhbbbmioaaGreat
open Go.RowKit Go.Shelf

theorem flat_take {k : Nat} : ∀ {xs : List (List Value)} {p : Nat}, (∀ x ∈ xs, x.length = k) → (xs.take p).flatten = xs.flatten.take (p * k)
  | [], p, _ => by simp
  | x :: xs, 0, _ => by simp
  | x :: xs, p + 1, h => by
    have hx := h x (by simp)
    rw [List.take_succ_cons, List.flatten_cons, List.flatten_cons, flat_take (fun y hy => h y (by simp [hy])), List.take_append, hx, show (p + 1) * k - k = p * k by rw [Nat.add_mul]; omega, List.take_of_length_le (l := x) (by rw [hx, Nat.add_mul]; omega)]

theorem flat_drop {k : Nat} : ∀ {xs : List (List Value)} {p : Nat}, (∀ x ∈ xs, x.length = k) → (xs.drop p).flatten = xs.flatten.drop (p * k)
  | [], p, _ => by simp
  | x :: xs, 0, _ => by simp
  | x :: xs, p + 1, h => by
    have hx := h x (by simp)
    rw [List.drop_succ_cons, List.flatten_cons, flat_drop (fun y hy => h y (by simp [hy])), List.drop_append, hx, show (p + 1) * k - k = p * k by rw [Nat.add_mul]; omega, List.drop_of_length_le (l := x) (by rw [hx, Nat.add_mul]; omega), List.nil_append]

/-- A piece of a row. -/
theorem RowAt.piece {e : TypeId} {k : Nat} {v : Value} {xs : List (List Value)} {w : World} (h : RowAt e k v xs w) (lo hi : Nat) (h1 : lo ≤ hi) (h2 : hi ≤ xs.length) :
    ∃ a c, v = .slice a xs.length c ∧ xs.length ≤ c ∧ ∀ w', (∀ g, v.ownBlock = some g → w'.heap[g]? = w.heap[g]?) → SrcAt w' (sliced a lo hi c k) ((xs.take hi).drop lo) := by
  rcases h.1.2 with ⟨rfl, hn⟩ | ⟨g, cap, cur, rfl, -, hg, hc, -, -, hcur⟩
  · obtain rfl : xs = [] := List.eq_nil_of_length_eq_zero hn
    refine ⟨none, 0, rfl, Nat.le_refl _, fun w' _ => .inl ⟨?_, by simp⟩⟩
    have e1 : hi = 0 := by simpa using h2
    have e2 : lo = 0 := by omega
    subst e1 e2
    simp [sliced]
  · refine ⟨some ⟨g, 0, none⟩, cap, rfl, hc, fun w' hw => .inr ?_⟩
    have hlen : ((xs.take hi).drop lo).length = hi - lo := by simp; omega
    have hk : ∀ x ∈ xs.take hi, x.length = k := fun x hx => h.2 x (List.mem_of_mem_take hx)
    have hcell : ∀ (j : Nat) (x : Value), ((xs.take hi).drop lo).flatten[j]? = some x → w'.cell? ⟨g, lo * k + j, none⟩ = some x := by
      intro j x hj
      rw [flat_drop hk, flat_take h.2, List.getElem?_drop, List.getElem?_take] at hj
      split at hj
      · rw [← hcur, List.getElem?_take] at hj
        split at hj
        · rw [Array.getElem?_toList] at hj
          exact (cell_blk ((hw g rfl).trans hg) (lo * k + j)).trans hj
        · cases hj
      · cases hj
    by_cases hcl : cap = lo
    · refine ⟨⟨g, 0, none⟩, cap - lo, by simp only [sliced, if_pos hcl, hlen], fun j x hj => ?_⟩
      have h0 : (xs.take hi).drop lo = [] := List.eq_nil_of_length_eq_zero (by omega)
      rw [h0] at hj
      simp at hj
    · refine ⟨(⟨g, 0, none⟩ : Addr).add (lo * k), cap - lo, by simp [sliced, hcl, hlen], fun j x hj => ?_⟩
      rw [at_add, at_add, Nat.zero_add]; exact hcell j x hj

theorem RowAt.lo {e t : TypeId} {k : Nat} {v : Value} {xs : List (List Value)} {w : World} (h : RowAt e k v xs w) (ht : Tryz.prog.underlying t = some (.slice (Tryz.prog.elem t))) (hz : ∀ w, (sizeOf (Tryz.prog.elem t)).run Tryz.prog w = .ok k w) (p : Nat) (hp : p ≤ xs.length) :
    ∃ u, (∀ w', (Instr.slice t v none (some (.int .i64 (p : Int))) none).run Tryz.prog w' = .ok u w') ∧ ∀ w', (∀ g, v.ownBlock = some g → w'.heap[g]? = w.heap[g]?) → SrcAt w' u (xs.take p) := by
  obtain ⟨a, c, rfl, hc, hs⟩ := h.piece 0 p (Nat.zero_le _) hp
  refine ⟨sliced a 0 p c k, fun w' => ?_, fun w' hw => by simpa using hs w' hw⟩
  rw [run_slice_h w' t a xs.length c ht .i64 (p : Int) (by omega) (by omega), hz]
  simp [Result.andThen]

theorem RowAt.hi {e t : TypeId} {k : Nat} {v : Value} {xs : List (List Value)} {w : World} (h : RowAt e k v xs w) (ht : Tryz.prog.underlying t = some (.slice (Tryz.prog.elem t))) (hz : ∀ w, (sizeOf (Tryz.prog.elem t)).run Tryz.prog w = .ok k w) (p : Nat) (hp : p ≤ xs.length) :
    ∃ u, (∀ w', (Instr.slice t v (some (.int .i64 (p : Int))) none none).run Tryz.prog w' = .ok u w') ∧ ∀ w', (∀ g, v.ownBlock = some g → w'.heap[g]? = w.heap[g]?) → SrcAt w' u (xs.drop p) := by
  obtain ⟨a, c, rfl, hc, hs⟩ := h.piece p xs.length hp (Nat.le_refl _)
  refine ⟨sliced a p xs.length c k, fun w' => ?_, fun w' hw => by simpa using hs w' hw⟩
  rw [run_slice_l w' t a xs.length c ht .i64 (p : Int) (by omega) (by omega), hz]
  simp [Result.andThen]

end Go.Proofs.YtachmkhbbbmioaaGreat
