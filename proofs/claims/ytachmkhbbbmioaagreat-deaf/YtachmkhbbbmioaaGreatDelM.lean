import Derived.Test.YtachmkhbbbmioaaGreatFrAX
namespace Go.Proofs.YtachmkhbbbmioaaGreat
open Go.RowKit Go.Shelf

/-- The entries without the first of a key. -/
def del (c k : Int) : List Ent → List Ent
  | [] => []
  | x :: l => if c == x.c && k == x.k then l else x :: del c k l

theorem fnd_del_none (c k : Int) : ∀ (l : List Ent) (i : Nat), fnd c k l i = none → del c k l = l
  | [], _, _ => rfl
  | x :: l, i, h => by
    unfold fnd at h
    unfold del
    split at h
    · cases h
    · rename_i e; rw [if_neg e, fnd_del_none c k l (i + 1) h]

theorem fnd_del_some (c k : Int) (v : Value) (j : Nat) : ∀ (l : List Ent) (i : Nat), fnd c k l i = some (j, v) → i ≤ j ∧ j - i < l.length ∧ del c k l = l.eraseIdx (j - i)
  | [], i, h => by cases h
  | x :: l, i, h => by
    unfold fnd at h
    unfold del
    split at h
    · rename_i e
      simp only [Option.some.injEq, Prod.mk.injEq] at h
      obtain ⟨rfl, rfl⟩ := h
      rw [if_pos e]
      exact ⟨Nat.le_refl _, by simp, by simp⟩
    · rename_i e
      obtain ⟨h1, h2, h3⟩ := fnd_del_some c k v j l (i + 1) h
      rw [if_neg e, h3]
      have e3 : j - i = (j - (i + 1)) + 1 := by omega
      exact ⟨by omega, by simp; omega, by rw [e3, List.eraseIdx_cons_succ]⟩

theorem map_erase {α β : Type} (f : α → β) : ∀ (l : List α) (i : Nat), (l.map f).eraseIdx i = (l.eraseIdx i).map f
  | [], _ => rfl
  | _ :: _, 0 => rfl
  | x :: l, i + 1 => by rw [List.map_cons, List.eraseIdx_cons_succ, List.eraseIdx_cons_succ, List.map_cons, map_erase f l i]

theorem run_delete {P : Program} {T K E : TypeId} (H : KeyT P T K E) (ty : TypeId) {w : World} {b : Nat} {l : List Ent} (h : entsAt w b l) (c k : Int) :
    ∃ o, (Builtin.delete_ #[T, K] ty #[.map (some b), pr c k]).run P w = .ok (.tuple #[]) (w.putObj b o) ∧ entsAt (w.putObj b o) b (del c k l) := by
  have hlt := h.lt
  obtain ⟨clk, h⟩ := h
  have h1 := run_find H w c k l 0
  cases hf : fnd c k l 0 with
  | none =>
    refine ⟨.map ((del c k l).map Ent.entry).toArray clk, ?_, entsAt_putObj hlt _⟩
    rw [fnd_del_none c k l 0 hf]
    simp [Builtin.delete_, run_getObj_map w b _ clk h, run_underlying H.map, H.ck, run_findKey_eq w H.wide, h1, hf, run_setMap P _ h]
  | some p =>
    obtain ⟨j, v⟩ := p
    obtain ⟨-, h2, h3⟩ := fnd_del_some c k v j l 0 hf
    rw [Nat.sub_zero] at h2 h3
    refine ⟨.map ((del c k l).map Ent.entry).toArray clk, ?_, entsAt_putObj hlt _⟩
    have e : (l.map Ent.entry).eraseIdx j = (del c k l).map Ent.entry := by rw [h3, map_erase]
    simp [Builtin.delete_, run_getObj_map w b _ clk h, run_underlying H.map, H.ck, run_findKey_eq w H.wide, h1, hf, run_setMap P _ h, e]

theorem del_ex {P : Program} {T K E : TypeId} (H : KeyT P T K E) {w : World} {b : Nat} {l : List Ent} (h : entsAt w b l) (c k : Int) :
    ∃ w2, (∀ ty : TypeId, (Builtin.delete_ #[T, K] ty #[.map (some b), .agg #[.int .i64 c, .int .i64 k]]).run P w = .ok (.tuple #[]) w2) ∧ (∀ a, w2.cell? a = w.cell? a) ∧ (∀ a, w2.frozen? a = w.frozen? a) ∧ w2.heap.size = w.heap.size ∧ w.grownBy w2 (some b) ∧ entsAt w2 b (del c k l) := by
  obtain ⟨o, h1, h2⟩ := run_delete H 0 h c k
  have hlt := h.lt
  have h3 : (w.putObj b o).heap[b]? = some o := World.putObj_heap_same hlt
  have h4 : ∃ es clk, o = .map es clk := by
    obtain ⟨clk, h2⟩ := h2
    rw [h3] at h2
    exact ⟨_, _, Option.some.inj h2⟩
  obtain ⟨es, clk, rfl⟩ := h4
  obtain ⟨clk0, h0⟩ := h
  refine ⟨_, fun _ => h1, fun a => ?_, fun a => ?_, by simp, ⟨rfl, rfl, rfl, by simp, fun j _ hj => World.putObj_heap_other (fun e => hj (by rw [e]))⟩, h2⟩
  · by_cases e : a.block = b
    · simp [World.cell?, e, h3, h0]
    · exact World.cell?_of_block (World.putObj_heap_other e)
  · by_cases e : a.block = b
    · simp [World.frozen?, e, h3, h0]
    · exact World.frozen?_of_block (World.putObj_heap_other e)

theorem del_sub {c k : Int} {z : Ent} : ∀ {l : List Ent}, z ∈ del c k l → z ∈ l
  | [], h => h
  | x :: l, h => by
    unfold del at h
    split at h
    · exact List.mem_cons_of_mem _ h
    · rcases List.mem_cons.1 h with rfl | h
      · exact List.mem_cons_self
      · exact List.mem_cons_of_mem _ (del_sub h)

theorem del_apart {c k : Int} : ∀ {l : List Ent}, l.Pairwise (fun x y => ¬ (x.c = y.c ∧ x.k = y.k)) → (del c k l).Pairwise (fun x y => ¬ (x.c = y.c ∧ x.k = y.k))
  | [], h => h
  | x :: l, h => by
    obtain ⟨h1, h2⟩ := List.pairwise_cons.1 h
    unfold del
    split
    · exact h2
    · exact List.pairwise_cons.2 ⟨fun z hz => h1 z (del_sub hz), del_apart h2⟩

theorem look_none {c k : Int} : ∀ {l : List Ent}, (∀ y ∈ l, ¬ (c = y.c ∧ k = y.k)) → look c k l = none
  | [], _ => rfl
  | x :: l, h => by rw [look_cons, if_neg (h x (by simp)), look_none (fun y hy => h y (by simp [hy]))]

theorem look_del {c k c' k' : Int} : ∀ {l : List Ent}, l.Pairwise (fun x y => ¬ (x.c = y.c ∧ x.k = y.k)) → look c' k' (del c k l) = if c' = c ∧ k' = k then none else look c' k' l
  | [], _ => by simp [del, look_nil]
  | x :: l, h => by
    obtain ⟨h1, h2⟩ := List.pairwise_cons.1 h
    unfold del
    by_cases e : c = x.c ∧ k = x.k
    · rw [if_pos (by simpa using e), look_cons]
      obtain ⟨rfl, rfl⟩ := e
      by_cases q : c' = x.c ∧ k' = x.k
      · rw [if_pos q, look_none]
        intro y hy q2
        exact h1 y hy ⟨q.1.symm.trans q2.1, q.2.symm.trans q2.2⟩
      · rw [if_neg q, if_neg q]
    · rw [if_neg (by simpa using e), look_cons, look_cons, look_del h2]
      by_cases e1 : c' = x.c ∧ k' = x.k
      · rw [if_pos e1, if_pos e1, if_neg (fun q => e ⟨q.1.symm.trans e1.1, q.2.symm.trans e1.2⟩)]
      · rw [if_neg e1, if_neg e1]

theorem del_len {c k : Int} : ∀ {l : List Ent}, (look c k l).isSome = true → (del c k l).length + 1 = l.length
  | [], h => by simp [look_nil] at h
  | x :: l, h => by
    unfold del
    rw [look_cons] at h
    by_cases e : c = x.c ∧ k = x.k
    · rw [if_pos (by simpa using e)]; simp
    · rw [if_neg e] at h
      rw [if_neg (by simpa using e)]
      simp [del_len h]

theorem find_rem {wt : List OpR} {x : OpR} (o num : Int) : (remW x wt).find? (fun y => y.o == o && y.num == num) = if o = x.o ∧ num = x.num then none else wt.find? (fun y => y.o == o && y.num == num) := by
  unfold remW
  rw [List.find?_filter]
  by_cases q : o = x.o ∧ num = x.num
  · rw [if_pos q]
    apply List.find?_eq_none.2
    intro y _ h
    simp only [Bool.and_eq_true, Bool.not_eq_true', Bool.and_eq_false_iff, beq_iff_eq, beq_eq_false_iff_ne, decide_eq_true_eq] at h
    rcases h.1 with h1 | h1
    · exact h1 (h.2.1.trans q.1)
    · exact h1 (h.2.2.trans q.2)
  · rw [if_neg q]
    congr 1
    funext y
    by_cases h : (y.o == o && y.num == num) = true
    · have h2 := h
      simp only [Bool.and_eq_true, beq_iff_eq] at h2
      have : (!(y.o == x.o && y.num == x.num)) = true := by
        simp only [Bool.not_eq_true', Bool.and_eq_false_iff, beq_eq_false_iff_ne]
        by_cases e : y.o = x.o
        · exact .inr (fun e2 => q ⟨h2.1.symm.trans e, h2.2.symm.trans e2⟩)
        · exact .inl e
      simp [this, h]
    · have h' : (y.o == o && y.num == num) = false := by simpa using h
      simp [h']

/-- What is taken out of what waits. -/
theorem pen_del {E : List Ent} {wt : List OpR} (h : PenIs E wt) (h1 : wt.Pairwise (fun x y => ¬ (x.o = y.o ∧ x.num = y.num))) {x : OpR} (hx : x ∈ wt) : PenIs (del x.o x.num E) (remW x wt) := by
  refine ⟨fun o num => ?_, ?_, del_apart h.apart⟩
  · rw [look_del h.apart, find_rem, h.app]
    split <;> rfl
  · have hs : (look x.o x.num E).isSome = true := by
      rw [h.app]
      cases hf : wt.find? (fun y => y.o == x.o && y.num == x.num) with
      | some y => rfl
      | none => have := List.find?_eq_none.1 hf x hx; simp at this
    have e1 := del_len hs
    have e2 := h.len
    obtain ⟨A, B, rfl⟩ := List.append_of_mem hx
    rw [remW_cut h1]
    simp at e2 ⊢
    omega

theorem pen_put {E : List Ent} {wt : List OpR} (h : PenIs E wt) {x : OpR} (hx : ¬ ∃ y ∈ wt, y.o = x.o ∧ y.num = x.num) (n : Nat) : PenIs (put x.o x.num (.agg x.arr) n E) (wt ++ [x]) := by
  have hn : look x.o x.num E = none := by
    rw [h.app]
    cases hf : wt.find? (fun y => y.o == x.o && y.num == x.num) with
    | none => rfl
    | some y =>
      have h1 := List.find?_some hf
      have h2 := List.mem_of_find?_eq_some hf
      simp only [Bool.and_eq_true, beq_iff_eq] at h1
      exact (hx ⟨y, h2, h1⟩).elim
  refine ⟨fun o num => ?_, ?_, ?_⟩
  · rw [look_put, h.app, List.find?_append]
    by_cases q : o = x.o ∧ num = x.num
    · obtain ⟨rfl, rfl⟩ := q
      rw [if_pos ⟨rfl, rfl⟩]
      rw [h.app] at hn
      cases hf : wt.find? (fun y => y.o == x.o && y.num == x.num) with
      | none => simp
      | some y => rw [hf] at hn; cases hn
    · rw [if_neg q]
      have e : ([x].find? (fun y => y.o == o && y.num == num)) = none := by
        apply List.find?_eq_none.2
        intro y hy h1
        rw [List.mem_singleton.1 hy] at h1
        simp only [Bool.and_eq_true, beq_iff_eq] at h1
        exact q ⟨h1.1.symm, h1.2.symm⟩
      rw [e]
      simp
  · rw [put_length, hn, h.len]; simp
  · have e : put x.o x.num (.agg x.arr) n E = E ++ [{ c := x.o, k := x.num, v := .agg x.arr, born := n }] := by
      apply fnd_none (i := 0)
      have := hn
      unfold look at this
      simpa using this
    rw [e]
    refine List.pairwise_append.2 ⟨h.apart, List.pairwise_singleton _ _, fun a ha b hb q => ?_⟩
    rw [List.mem_singleton.1 hb] at q
    have : ∀ (l : List Ent), a ∈ l → look a.c a.k l ≠ none := by
      intro l
      induction l with
      | nil => intro h; cases h
      | cons z l ih =>
        intro h h2
        rw [look_cons] at h2
        split at h2
        · cases h2
        · rename_i hne
          rcases List.mem_cons.1 h with rfl | h
          · exact hne ⟨rfl, rfl⟩
          · exact ih h h2
    exact this E ha (by rw [q.1, q.2]; exact hn)

end Go.Proofs.YtachmkhbbbmioaaGreat
