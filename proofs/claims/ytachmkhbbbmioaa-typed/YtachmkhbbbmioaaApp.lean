import Derived.Test.YtachmkhbbbmioaaPick
import Derived.OwnWalk
namespace Go.Proofs.Ytachmkhbbbmioaa
open Go.RowKit Go.Shelf

/-- The law's own text: a slice of runes in a row that the law owns; nil just where it is empty. -/
structure TxtAt (base : Nat) (v : Value) (rs : List Int) (w : World) : Prop where
  own : w.ownsRow base 21 1 v rs.length (rs.map (Value.int .i32))
  nil : v = .slice none 0 0 ↔ rs = []

/-- What is appended. -/
def SrcIs (w : World) (u : Value) (ns : List Int) : Prop :=
  (u = .slice none 0 0 ∧ ns = []) ∨ ∃ ad c, u = .slice (some ad) ns.length c ∧ ∀ (j : Nat) (x : Value), (ns.map (Value.int .i32))[j]? = some x → w.cell? (ad.add j) = some x

theorem TxtAt.shape {base : Nat} {v : Value} {rs : List Int} {w : World} (h : TxtAt base v rs w) : (v = .slice none 0 0 ∧ rs = []) ∨ (rs ≠ [] ∧ ∃ (g cap : Nat) (cur : Array Value), v = .slice (some ⟨g, 0, none⟩) rs.length cap ∧ base ≤ g ∧ w.heap[g]? = some (.cells cur 21) ∧ rs.length ≤ cap ∧ cap ≤ maxLen ∧ ∀ (j : Nat) (x : Int), rs[j]? = some x → cur[j]? = some (Value.int .i32 x)) := by
  rcases h.own.2 with ⟨h1, h2⟩ | ⟨g, cap, cur, h1, h2, h3, h4, h5, h6, h7⟩
  · exact .inl ⟨h1, h.nil.1 h1⟩
  · refine .inr ⟨fun q => ?_, g, cap, cur, h1, h2, h3, h4, h5, fun j x hj => ?_⟩
    · have := h.nil.2 q; rw [h1] at this; cases this
    · have h8 : (rs.map (Value.int .i32))[j]? = some (Value.int .i32 x) := by simp [hj]
      rw [← h7, List.getElem?_take] at h8
      split at h8
      · rw [← Array.getElem?_toList]; exact h8
      · cases h8

theorem TxtAt.kept {base : Nat} {v : Value} {rs : List Int} {w w' : World} (h : TxtAt base v rs w) (e : ∀ (g : Nat) (cur : Array Value), w.heap[g]? = some (.cells cur 21) → w'.heap[g]? = some (.cells cur 21)) : TxtAt base v rs w' := by
  refine ⟨⟨h.own.1, ?_⟩, h.nil⟩
  rcases h.own.2 with h1 | ⟨g, cap, cur, h1, h2, h3, r⟩
  · exact .inl h1
  · exact .inr ⟨g, cap, cur, h1, h2, e g cur h3, r⟩

theorem TxtAt.fr {base cb sb ma mp lb mb : Nat} {S : CS} {v : Value} {rs : List Int} {w w' : World} (h : TxtAt base v rs w) (hc : CpAt cb sb ma mp lb mb S w) (f : Fr (own4 cb sb ma mb) w w') : TxtAt base v rs w' := by
  refine h.kept (fun g cur hg => f.blk hg ?_)
  obtain ⟨E, h1, -⟩ := hc.st.ln
  obtain ⟨EA, ⟨ca, ha⟩, -⟩ := hc.st.app
  obtain ⟨cbb, hb⟩ := h1.ents
  simp only [List.mem_cons, List.not_mem_nil, or_false]
  rintro (rfl | rfl | rfl | rfl)
  · rw [hc.cp] at hg; cases hg
  · rw [hc.st.st] at hg; cases hg
  · rw [ha] at hg; cases hg
  · rw [hb] at hg; cases hg

/-- What the law does to its own text turns nothing of the copy. -/
theorem CpAt.own {base cb sb ma mp lb mb : Nat} {S : CS} {v : Value} {rs : List Int} {w w' : World} (hc : CpAt cb sb ma mp lb mb S w) (h : TxtAt base v rs w) (g : w.grownBy w' v.ownBlock) : CpAt cb sb ma mp lb mb S w' := by
  have key : ∀ (k : Nat) (o : Obj), w.heap[k]? = some o → (∀ c : Array Value, o ≠ Obj.cells c 21) → w'.heap[k]? = some o := by
    intro k o hk ho
    refine (g.block k (lt_of_heap hk) (fun q => ?_)).trans hk
    rcases h.own.2 with ⟨h1, -⟩ | ⟨gg, cap, cur, h1, h2, h3, r⟩
    · rw [h1] at q; cases q
    · rw [h1] at q
      cases q
      rw [h3] at hk; cases hk; exact ho _ rfl
  obtain ⟨E, h1, h1'⟩ := hc.st.ln
  obtain ⟨EA, ⟨ca, ha⟩, hAI⟩ := hc.st.app
  obtain ⟨cp, hp⟩ := hc.st.pen
  obtain ⟨cbb, hb⟩ := h1.ents
  exact ⟨key _ _ hc.cp (by intro c q; cases q), ⟨key _ _ hc.st.st (by intro c q; cases q), ⟨EA, ⟨ca, key _ _ ha (by intro c q; cases q)⟩, hAI⟩, ⟨cp, key _ _ hp (by intro c q; cases q)⟩, ⟨E, ⟨key _ _ h1.line (by intro c q; cases q), ⟨cbb, key _ _ hb (by intro c q; cases q)⟩⟩, h1'⟩, hc.st.ne1, hc.st.ne2, hc.st.ne3⟩⟩

theorem infoRune : (Try.prog.info? 21).map (fun i => (i.zero, i.size, i.bytes)) = some (some (.int .i32 0), 1, 4) := by kernel_rfl

theorem run_append_nilsrc (w : World) (ty : TypeId) (b : Option Addr) (n c : Nat) (h : n ≤ c) :
    (Builtin.append_ #[30, 30] ty #[.slice b n c, .slice none 0 0]).run Try.prog w = .ok (.slice b n c) w := by
  obtain ⟨i, hi, -⟩ := Option.map_eq_some_iff.1 infoRune
  cases b <;> simp [Builtin.append_, run_underlying Try.underlying30, Builtin.lenOf, Builtin.firstCells, sizeOf, typeInfo, hi, h, storeCells]

/-- APPEND, from whatever source, to a text of the law's own. -/
theorem wpList_app {w : World} {ops : Array Oper} {rest : List Oper} {o : Oper} {a : Act} {Q : Exit → Act → World → Prop} (hgd : o.guard = none) (s x : Operand)
    (ho : o.op = .call { callee := .builtin .append, args := #[s, x], argTypes := #[30, 30] }) (base : Nat) (v : Value) (rs : List Int) (hs : a.eval s = v) (hT : TxtAt base v rs w)
    (u : Value) (ns : List Int) (hx : a.eval x = u) (hsrc : SrcIs w u ns) (hlen : rs.length + ns.length ≤ 1000000) (hbase : base ≤ w.heap.size)
    (h : ∀ v' w', TxtAt base v' (rs ++ ns) w' → w.grownBy w' v.ownBlock → wpList Try.prog ops Q rest (a.put o.dst v') w') : wpList Try.prog ops Q (o :: rest) a w := by
  rcases hsrc with ⟨rfl, rfl⟩ | ⟨ad, c, rfl, hc⟩
  · refine wpList_plain hgd fun K hK => ?_
    have hv : ∃ b n c, v = .slice b n c ∧ n ≤ c := by
      rcases hT.own.2 with ⟨h1, -⟩ | ⟨g, cap, cur, h1, h2, h3, h4, -⟩
      · exact ⟨none, 0, 0, h1, Nat.le_refl _⟩
      · exact ⟨_, _, _, h1, h4⟩
    obtain ⟨b, n, c, rfl, hnc⟩ := hv
    unfold Oper.wp execOp
    simp only [ho, resolve, invoke, builtin, Sem.run_bind, Sem.run_pure, Result.andThen_ok, List.map_toArray, List.map_cons, List.map_nil, hs, hx, run_append_nilsrc w o.type b n c hnc]
    exact hK _ _ (h _ w (by rw [List.append_nil]; exact hT) ⟨rfl, rfl, rfl, Nat.le_refl _, fun _ _ _ => rfl⟩)
  · obtain ⟨i0, hi, hz0, hz1, hz2⟩ := info_parts infoRune
    refine wpList_append_own w hgd s x _ ho base 21 i0 (.int .i32 0) 1 4 Try.underlying30 hi hz0 hz1 hz2 rfl (by decide) v rs.length _ hs hT.own ad ns.length c (ns.map (Value.int .i32)) hx (by simp) hc (by intro q hq; obtain ⟨y, -, rfl⟩ := List.mem_map.1 hq; rfl) (by unfold maxLen; omega) (by omega) hbase ?_
    intro v' w' h1 h2 h3
    refine h v' w' ⟨by simpa using h1, ?_⟩ h2
    rw [h3, hT.nil, List.append_eq_nil_iff, List.length_eq_zero_iff]

end Go.Proofs.Ytachmkhbbbmioaa
