import Derived.Test.YtachmkhbbbmioaaGreatFrame
import Derived.Maps.AppendAt
import Derived.OwnWalk
namespace Go.Proofs.YtachmkhbbbmioaaGreat
open Go.RowKit Go.Shelf

/-- A slice in a row of its own: xs, of k cells each. -/
def RowAt (e : TypeId) (k : Nat) (v : Value) (xs : List (List Value)) (w : World) : Prop :=
  w.ownsRow 0 e k v xs.length xs.flatten ∧ ∀ x ∈ xs, x.length = k

/-- What is appended. -/
def SrcAt (w : World) (u : Value) (ys : List (List Value)) : Prop :=
  (u = .slice none 0 0 ∧ ys = []) ∨ ∃ ad c, u = .slice (some ad) ys.length c ∧ ∀ (j : Nat) (y : Value), ys.flatten[j]? = some y → w.cell? (ad.add j) = some y

theorem row_nil (e : TypeId) (k : Nat) (w : World) : RowAt e k (.slice none 0 0) [] w := ⟨World.ownsRow_nil _ _ _ _, by simp⟩

theorem flat_len {k : Nat} : ∀ {xs : List (List Value)}, (∀ x ∈ xs, x.length = k) → xs.flatten.length = xs.length * k
  | [], _ => by simp
  | x :: xs, h => by
    rw [List.flatten_cons, List.length_append, h x (by simp), flat_len (fun y hy => h y (by simp [hy])), List.length_cons, Nat.add_mul]
    omega

theorem flat_at {k : Nat} : ∀ {xs : List (List Value)} {i j : Nat} {x : List Value}, (∀ x ∈ xs, x.length = k) → xs[i]? = some x → j < k → xs.flatten[i * k + j]? = x[j]?
  | [], i, j, x, _, hi, _ => by simp at hi
  | y :: xs, 0, j, x, h, hi, hj => by
    simp at hi
    subst hi
    rw [List.flatten_cons, Nat.zero_mul, Nat.zero_add, List.getElem?_append_left (by rw [h y (by simp)]; exact hj)]
  | y :: xs, i + 1, j, x, h, hi, hj => by
    have hy := h y (by simp)
    rw [List.flatten_cons, List.getElem?_append_right (by rw [hy, Nat.add_mul]; omega), hy, show (i + 1) * k + j - k = i * k + j by rw [Nat.add_mul]; omega]
    exact flat_at (fun z hz => h z (by simp [hz])) (by simpa using hi) hj

theorem RowAt.kept {e : TypeId} {k : Nat} {v : Value} {xs : List (List Value)} {w w' : World} (h : RowAt e k v xs w) (hb : ∀ g, v.ownBlock = some g → w'.heap[g]? = w.heap[g]?) : RowAt e k v xs w' := by
  refine ⟨⟨h.1.1, ?_⟩, h.2⟩
  rcases h.1.2 with h1 | ⟨g, cap, cur, h1, h2, h3, r⟩
  · exact .inl h1
  · exact .inr ⟨g, cap, cur, h1, h2, (hb g (by rw [h1]; rfl)).trans h3, r⟩

theorem RowAt.blk {e : TypeId} {k : Nat} {v : Value} {xs : List (List Value)} {w : World} (h : RowAt e k v xs w) {g : Nat} (hg : v.ownBlock = some g) : ∃ cur, w.heap[g]? = some (.cells cur e) := by
  rcases h.1.2 with ⟨h1, -⟩ | ⟨g', cap, cur, h1, h2, h3, r⟩
  · rw [h1] at hg; cases hg
  · rw [h1] at hg; cases hg; exact ⟨cur, h3⟩

theorem RowAt.lt {e : TypeId} {k : Nat} {v : Value} {xs : List (List Value)} {w : World} (h : RowAt e k v xs w) {g : Nat} (hg : v.ownBlock = some g) : g < w.heap.size := by
  obtain ⟨cur, hc⟩ := h.blk hg
  exact lt_of_heap hc

theorem RowAt.value {e : TypeId} {k : Nat} {v : Value} {xs : List (List Value)} {w : World} (h : RowAt e k v xs w) : ∃ a c, v = .slice a xs.length c ∧ xs.length ≤ c := by
  rcases h.1.2 with ⟨h1, h2⟩ | ⟨g, cap, cur, h1, h2, h3, h4, r⟩
  · exact ⟨none, 0, by rw [h1, h2], by omega⟩
  · exact ⟨_, _, h1, h4⟩

/-- An element of it. -/
theorem RowAt.cell {e : TypeId} {k : Nat} {v : Value} {xs : List (List Value)} {w : World} (h : RowAt e k v xs w) {i : Nat} {x : List Value} (hi : xs[i]? = some x) :
    ∃ g cap cur, v = .slice (some ⟨g, 0, none⟩) xs.length cap ∧ xs.length ≤ cap ∧ w.heap[g]? = some (.cells cur e) ∧ (∀ (j : Nat) (y : Value), x[j]? = some y → cur[i * k + j]? = some y) := by
  rcases h.1.2 with ⟨h1, h2⟩ | ⟨g, cap, cur, h1, h2, h3, h4, h5, h6, h7⟩
  · have := (List.getElem?_eq_some_iff.1 hi).1; omega
  · refine ⟨g, cap, cur, h1, h4, h3, fun j y hj => ?_⟩
    have hjk : j < k := by
      have := (List.getElem?_eq_some_iff.1 hj).1
      rwa [h.2 x (List.mem_of_getElem? hi)] at this
    have h8 := flat_at h.2 hi hjk
    rw [hj, ← h7, List.getElem?_take] at h8
    split at h8
    · rw [← Array.getElem?_toList]; exact h8
    · cases h8

theorem RowAt.grown {e : TypeId} {k : Nat} {v : Value} {xs : List (List Value)} {w w' : World} (h : RowAt e k v xs w) (g : w.grownBy w' none) : RowAt e k v xs w' :=
  h.kept (fun b hb => g.block b (h.lt hb) (by simp))
theorem RowAt.below {e : TypeId} {k : Nat} {v : Value} {xs : List (List Value)} {w w' : World} (h : RowAt e k v xs w) (g : Below w.heap.size w w') : RowAt e k v xs w' :=
  h.kept (fun b hb => g.block b (h.lt hb))

theorem at_add (g o j : Nat) : (⟨g, o, none⟩ : Addr).add j = ⟨g, o + j, none⟩ := by
  cases j <;> simp [Addr.add]

/-- A row that is appended whole. -/
theorem RowAt.src {e : TypeId} {k : Nat} {v : Value} {xs : List (List Value)} {w : World} (h : RowAt e k v xs w) : SrcAt w v xs := by
  rcases h.1.2 with ⟨h1, h2⟩ | ⟨g, cap, cur, h1, h2, h3, h4, h5, h6, h7⟩
  · exact .inl ⟨h1, List.eq_nil_of_length_eq_zero h2⟩
  · refine .inr ⟨_, _, h1, fun j y hj => ?_⟩
    rw [at_add, Nat.zero_add, cell_blk h3 j]
    rw [← h7, List.getElem?_take] at hj
    split at hj
    · rw [← Array.getElem?_toList]; exact hj
    · cases hj

theorem run_append_nil_src {t e : TypeId} {i : TypeInfo} (ht : Tryz.prog.underlying t = some (.slice e)) (hi : Tryz.prog.info? e = some i) (w : World) (ty : TypeId) (b : Option Addr) (n c : Nat) (h : n ≤ c) :
    (Builtin.append_ #[t, t] ty #[.slice b n c, .slice none 0 0]).run Tryz.prog w = .ok (.slice b n c) w := by
  cases b <;> simp [Builtin.append_, run_underlying ht, Builtin.lenOf, Builtin.firstCells, sizeOf, typeInfo, hi, h, storeCells]

/-- APPEND to a row of one's own. -/
theorem wpList_row {w : World} {ops : Array Oper} {rest : List Oper} {o : Oper} {a : Act} {Q : Exit → Act → World → Prop} {t e : TypeId} {k bytes : Nat} {z : Value} (ht : Tryz.prog.underlying t = some (.slice e))
    (hinfo : (Tryz.prog.info? e).map (fun i => (i.zero, i.size, i.bytes)) = some (some z, k, bytes)) (hzs : z.cells.size = k) (hk : 0 < k) (hgd : o.guard = none) (s x : Operand)
    (ho : o.op = .call { callee := .builtin .append, args := #[s, x], argTypes := #[t, t] }) (v : Value) (xs : List (List Value)) (hs : a.eval s = v) (hR : RowAt e k v xs w)
    (u : Value) (ys : List (List Value)) (hx : a.eval x = u) (hsrc : SrcAt w u ys) (hyk : ∀ y ∈ ys, y.length = k) (hone : ∀ y ∈ ys, ∀ c ∈ y, c.oneCell' = true) (h63 : xs.length + ys.length ≤ maxLen) (hbytes : (xs.length + ys.length) * bytes ≤ 140737488355328)
    (h : ∀ v' w', RowAt e k v' (xs ++ ys) w' → w.grownBy w' v.ownBlock → (v'.ownBlock = v.ownBlock ∨ v'.ownBlock = some w.heap.size) → wpList Tryz.prog ops Q rest (a.put o.dst v') w') : wpList Tryz.prog ops Q (o :: rest) a w := by
  obtain ⟨i0, hi, hz0, hz1, hz2⟩ := info_parts hinfo
  rcases hsrc with ⟨rfl, rfl⟩ | ⟨ad, c, rfl, hc⟩
  · refine wpList_plain hgd fun K hK => ?_
    obtain ⟨b, c, rfl, hnc⟩ := hR.value
    unfold Oper.wp execOp
    simp only [ho, resolve, invoke, builtin, Sem.run_bind, Sem.run_pure, Result.andThen_ok, List.map_toArray, List.map_cons, List.map_nil, hs, hx, run_append_nil_src ht hi w o.type b _ c hnc]
    exact hK _ _ (h _ w (by rw [List.append_nil]; exact hR) ⟨rfl, rfl, rfl, Nat.le_refl _, fun _ _ _ => rfl⟩ (.inl rfl))
  · refine wpList_append_own_at w hgd s x _ ho 0 e i0 z k bytes ht hi hz0 hz1 hz2 hzs hk v xs.length _ hs hR.1 ad ys.length c ys.flatten hx (flat_len hyk) hc (by intro q hq; obtain ⟨y, hy, hq⟩ := List.mem_flatten.1 hq; exact hone y hy q hq) h63 hbytes (Nat.zero_le _) ?_
    intro v' w' h1 h2 h3 h4
    refine h v' w' ⟨by simpa using h1, ?_⟩ h2 h4
    intro y hy
    rcases List.mem_append.1 hy with hy | hy
    · exact hR.2 y hy
    · exact hyk y hy

end Go.Proofs.YtachmkhbbbmioaaGreat
