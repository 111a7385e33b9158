import Derived.Test.YtachmkhbbbmioaaGreatPairB
namespace Go.Proofs.YtachmkhbbbmioaaGreat
open Go.RowKit Go.Shelf

/-- APPEND to a list that has no room: the new one lies in new memory. -/
theorem wpList_full {w : World} {ops : Array Oper} {rest : List Oper} {o : Oper} {a : Act} {Q : Exit → Act → World → Prop} {t e : TypeId} {k bytes : Nat} {z : Value} (ht : Tryz.prog.underlying t = some (.slice e))
    (hinfo : (Tryz.prog.info? e).map (fun i => (i.zero, i.size, i.bytes)) = some (some z, k, bytes)) (hzs : z.cells.size = k) (hgd : o.guard = none) (s x : Operand)
    (ho : o.op = .call { callee := .builtin .append, args := #[s, x], argTypes := #[t, t] }) (g n cap : Nat) (xs : List (List Value)) (hs : a.eval s = .slice (some ⟨g, 0, none⟩) n cap) (hR : RowAt e k (.slice (some ⟨g, 0, none⟩) n cap) xs w)
    (ad : Addr) (m c : Nat) (ys : List (List Value)) (hx : a.eval x = .slice (some ad) m c) (hm : ys.length = m) (hc : ∀ (j : Nat) (y : Value), ys.flatten[j]? = some y → w.cell? (ad.add j) = some y) (hyk : ∀ y ∈ ys, y.length = k) (hroom : cap < n + m) (h63 : n + m ≤ maxLen) (hbytes : (n + m) * bytes ≤ 140737488355328)
    (h : ∀ c' w', RowAt e k (.slice (some ⟨w.heap.size, 0, none⟩) (n + m) c') (xs ++ ys) w' → w.grownBy w' none → w.heap.size < w'.heap.size → wpList Tryz.prog ops Q rest (a.put o.dst (.slice (some ⟨w.heap.size, 0, none⟩) (n + m) c')) w') : wpList Tryz.prog ops Q (o :: rest) a w := by
  obtain ⟨i, hi, hz0, hz1, hz2⟩ := info_parts hinfo
  subst hz1 hz2
  have hn : xs.length = n := by
    rcases hR.1.2 with ⟨h1, -⟩ | ⟨g', cap', cur, h1, -⟩
    · cases h1
    · simp only [Value.slice.injEq] at h1; exact h1.2.1.symm
  have hown := hR.1
  rw [hn] at hown
  have hl : ys.flatten.length = m * i.size := by rw [flat_len hyk, hm]
  have hlen : (xs.flatten ++ ys.flatten).length = (n + m) * i.size := by rw [List.length_append, hown.1, hl, Nat.add_mul]
  have holds : ∀ j u, xs.flatten[j]? = some u → w.cell? ((⟨g, 0, none⟩ : Addr).add j) = some u := hown.cells (g := g) rfl
  have hall : ∀ y ∈ xs ++ ys, y.length = i.size := by
    intro y hy
    rcases List.mem_append.1 hy with hy | hy
    · exact hR.2 y hy
    · exact hyk y hy
  have hsmall : n + m ≤ 9223372036854775807 := by simp only [maxLen] at h63; omega
  have hr := run_append_grow (P := Tryz.prog) w t o.type e i z ht hi hz0 ⟨g, 0, none⟩ n cap xs.flatten hown.1 holds ad m c ys.flatten hl hc (by omega) (by omega) (growslice_fits (by omega) hbytes)
  refine wpList_plain hgd fun K hK => ?_
  unfold Oper.wp execOp
  simp only [ho, resolve, invoke, builtin, Sem.run_bind, Sem.run_pure, Result.andThen_ok, List.map_toArray, List.map_cons, List.map_nil, hs, hx, hr]
  refine hK _ _ (h (grownCap w (n + m) cap e) _ ⟨⟨?_, .inr ⟨w.heap.size, grownCap w (n + m) cap e, _, ?_, Nat.zero_le _, heap_alloc_new w.drew _, ?_, grownCap_le_maxLen w (n + m) cap e h63, ?_, ?_⟩⟩, ?_⟩ ⟨rfl, rfl, rfl, by simp, fun k hk _ => (Below.heap_alloc w.drew _ _ hk)⟩ (by simp))
  · exact flat_len hall
  · rw [List.length_append, hn, hm]
  · rw [List.length_append, hn, hm]; exact grownCap_ge w (n + m) cap e
  · have hge := grownCap_ge w (n + m) cap e
    generalize grownCap w (n + m) cap e = G at hge ⊢
    simp only [Array.size_append, List.size_toArray, size_zeroCells, hzs, hown.1, hl, ← Nat.add_mul]
    rw [Nat.add_sub_of_le hge]
  · simp only [Array.toList_append, List.append_assoc, List.flatten_append, List.length_append, hn, hm]
    rw [← List.append_assoc, ← hlen]
    exact List.take_left
  · exact hall

end Go.Proofs.YtachmkhbbbmioaaGreat
