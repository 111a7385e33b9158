import Derived.Test.YtachmkhbbbmioaaGreatBytX
import Derived.Maps.AppendAt
import Derived.OwnWalk
namespace Go.Proofs.YtachmkhbbbmioaaGreat
open Go.RowKit Go.Shelf

/-- A slice in a row of its own: xs, of k cells each. -/
def RowAt (e : TypeId) (k : Nat) (v : Value) (xs : List (List Value)) (w : World) : Prop :=
  w.ownsRow 0 e k v xs.length xs.flatten ∧ ∀ x ∈ xs, x.length = k

/-- What is appended. -/
def SrcAt (w : World) (u : Value) (ys : List (List Value)) : Prop :=
  (u = .slice none 0 0 ∧ ys = []) ∨ ∃ ad c, u = .slice (some ad) ys.length c ∧ ∀ (j : Nat) (y : Value), ys.flatten[j]? = some y → w.cell? (ad.add j) = some y

theorem row_nil (e : TypeId) (k : Nat) (w : World) : RowAt e k (.slice none 0 0) [] w := ⟨World.ownsRow_nil _ _ _ _, by simp⟩

theorem flat_len {k : Nat} : ∀ {xs : List (List Value)}, (∀ x ∈ xs, x.length = k) → xs.flatten.length = xs.length * k
  | [], _ => by simp
  | x :: xs, h => by
    rw [List.flatten_cons, List.length_append, h x (by simp), flat_len (fun y hy => h y (by simp [hy])), List.length_cons, Nat.add_mul]
    omega

theorem flat_at {k : Nat} : ∀ {xs : List (List Value)} {i j : Nat} {x : List Value}, (∀ x ∈ xs, x.length = k) → xs[i]? = some x → j < k → xs.flatten[i * k + j]? = x[j]?
  | [], i, j, x, _, hi, _ => by simp at hi
  | y :: xs, 0, j, x, h, hi, hj => by
    simp at hi
    subst hi
    rw [List.flatten_cons, Nat.zero_mul, Nat.zero_add, List.getElem?_append_left (by rw [h y (by simp)]; exact hj)]
  | y :: xs, i + 1, j, x, h, hi, hj => by
    have hy := h y (by simp)
    rw [List.flatten_cons, List.getElem?_append_right (by rw [hy, Nat.add_mul]; omega), hy, show (i + 1) * k + j - k = i * k + j by rw [Nat.add_mul]; omega]
    exact flat_at (fun z hz => h z (by simp [hz])) (by simpa using hi) hj

theorem RowAt.kept {e : TypeId} {k : Nat} {v : Value} {xs : List (List Value)} {w w' : World} (h : RowAt e k v xs w) (hb : ∀ g, v.ownBlock = some g → w'.heap[g]? = w.heap[g]?) : RowAt e k v xs w' := by
  refine ⟨⟨h.1.1, ?_⟩, h.2⟩
  rcases h.1.2 with h1 | ⟨g, cap, cur, h1, h2, h3, r⟩
  · exact .inl h1
  · exact .inr ⟨g, cap, cur, h1, h2, (hb g (by rw [h1]; rfl)).trans h3, r⟩

theorem RowAt.blk {e : TypeId} {k : Nat} {v : Value} {xs : List (List Value)} {w : World} (h : RowAt e k v xs w) {g : Nat} (hg : v.ownBlock = some g) : ∃ cur, w.heap[g]? = some (.cells cur e) := by
  rcases h.1.2 with ⟨h1, -⟩ | ⟨g', cap, cur, h1, h2, h3, r⟩
  · rw [h1] at hg; cases hg
  · rw [h1] at hg; cases hg; exact ⟨cur, h3⟩

theorem RowAt.lt {e : TypeId} {k : Nat} {v : Value} {xs : List (List Value)} {w : World} (h : RowAt e k v xs w) {g : Nat} (hg : v.ownBlock = some g) : g < w.heap.size := by
  obtain ⟨cur, hc⟩ := h.blk hg
  exact lt_of_heap hc

theorem RowAt.value {e : TypeId} {k : Nat} {v : Value} {xs : List (List Value)} {w : World} (h : RowAt e k v xs w) : ∃ a c, v = .slice a xs.length c ∧ xs.length ≤ c := by
  rcases h.1.2 with ⟨h1, h2⟩ | ⟨g, cap, cur, h1, h2, h3, h4, r⟩
  · exact ⟨none, 0, by rw [h1, h2], by omega⟩
  · exact ⟨_, _, h1, h4⟩

/-- An element of it. -/
theorem RowAt.cell {e : TypeId} {k : Nat} {v : Value} {xs : List (List Value)} {w : World} (h : RowAt e k v xs w) {i : Nat} {x : List Value} (hi : xs[i]? = some x) :
    ∃ g cap cur, v = .slice (some ⟨g, 0, none⟩) xs.length cap ∧ xs.length ≤ cap ∧ w.heap[g]? = some (.cells cur e) ∧ (∀ (j : Nat) (y : Value), x[j]? = some y → cur[i * k + j]? = some y) := by
  rcases h.1.2 with ⟨h1, h2⟩ | ⟨g, cap, cur, h1, h2, h3, h4, h5, h6, h7⟩
  · have := (List.getElem?_eq_some_iff.1 hi).1; omega
  · refine ⟨g, cap, cur, h1, h4, h3, fun j y hj => ?_⟩
    have hjk : j < k := by
      have := (List.getElem?_eq_some_iff.1 hj).1
      rwa [h.2 x (List.mem_of_getElem? hi)] at this
    have h8 := flat_at h.2 hi hjk
    rw [hj, ← h7, List.getElem?_take] at h8
    split at h8
    · rw [← Array.getElem?_toList]; exact h8
    · cases h8

theorem RowAt.grown {e : TypeId} {k : Nat} {v : Value} {xs : List (List Value)} {w w' : World} (h : RowAt e k v xs w) (g : w.grownBy w' none) : RowAt e k v xs w' :=
  h.kept (fun b hb => g.block b (h.lt hb) (by simp))
theorem RowAt.below {e : TypeId} {k : Nat} {v : Value} {xs : List (List Value)} {w w' : World} (h : RowAt e k v xs w) (g : Below w.heap.size w w') : RowAt e k v xs w' :=
  h.kept (fun b hb => g.block b (h.lt hb))

theorem at_add (g o j : Nat) : (⟨g, o, none⟩ : Addr).add j = ⟨g, o + j, none⟩ := by
  cases j <;> simp [Addr.add]

/-- A row that is appended whole. -/
theorem RowAt.src {e : TypeId} {k : Nat} {v : Value} {xs : List (List Value)} {w : World} (h : RowAt e k v xs w) : SrcAt w v xs := by
  rcases h.1.2 with ⟨h1, h2⟩ | ⟨g, cap, cur, h1, h2, h3, h4, h5, h6, h7⟩
  · exact .inl ⟨h1, List.eq_nil_of_length_eq_zero h2⟩
  · refine .inr ⟨_, _, h1, fun j y hj => ?_⟩
    rw [at_add, Nat.zero_add, cell_blk h3 j]
    rw [← h7, List.getElem?_take] at hj
    split at hj
    · rw [← Array.getElem?_toList]; exact hj
    · cases hj

theorem run_append_nil_src {t e : TypeId} {i : TypeInfo} (ht : Tryz.prog.underlying t = some (.slice e)) (hi : Tryz.prog.info? e = some i) (w : World) (ty : TypeId) (b : Option Addr) (n c : Nat) (h : n ≤ c) :
    (Builtin.append_ #[t, t] ty #[.slice b n c, .slice none 0 0]).run Tryz.prog w = .ok (.slice b n c) w := by
  cases b <;> simp [Builtin.append_, run_underlying ht, Builtin.lenOf, Builtin.firstCells, sizeOf, typeInfo, hi, h, storeCells]

/-- APPEND to a row of one's own. -/
theorem wpList_row {w : World} {ops : Array Oper} {rest : List Oper} {o : Oper} {a : Act} {Q : Exit → Act → World → Prop} {t e : TypeId} {k bytes : Nat} {z : Value} (ht : Tryz.prog.underlying t = some (.slice e))
    (hinfo : (Tryz.prog.info? e).map (fun i => (i.zero, i.size, i.bytes)) = some (some z, k, bytes)) (hzs : z.cells.size = k) (hk : 0 < k) (hgd : o.guard = none) (s x : Operand)
    (ho : o.op = .call { callee := .builtin .append, args := #[s, x], argTypes := #[t, t] }) (v : Value) (xs : List (List Value)) (hs : a.eval s = v) (hR : RowAt e k v xs w)
    (u : Value) (ys : List (List Value)) (hx : a.eval x = u) (hsrc : SrcAt w u ys) (hyk : ∀ y ∈ ys, y.length = k) (hone : ∀ y ∈ ys, ∀ c ∈ y, c.oneCell' = true) (h63 : xs.length + ys.length ≤ maxLen) (hbytes : (xs.length + ys.length) * bytes ≤ 140737488355328)
    (h : ∀ v' w', RowAt e k v' (xs ++ ys) w' → w.grownBy w' v.ownBlock → (v'.ownBlock = v.ownBlock ∨ v'.ownBlock = some w.heap.size) → wpList Tryz.prog ops Q rest (a.put o.dst v') w') : wpList Tryz.prog ops Q (o :: rest) a w := by
  obtain ⟨i0, hi, hz0, hz1, hz2⟩ := info_parts hinfo
  rcases hsrc with ⟨rfl, rfl⟩ | ⟨ad, c, rfl, hc⟩
  · refine wpList_plain hgd fun K hK => ?_
    obtain ⟨b, c, rfl, hnc⟩ := hR.value
    unfold Oper.wp execOp
    simp only [ho, resolve, invoke, builtin, Sem.run_bind, Sem.run_pure, Result.andThen_ok, List.map_toArray, List.map_cons, List.map_nil, hs, hx, run_append_nil_src ht hi w o.type b _ c hnc]
    exact hK _ _ (h _ w (by rw [List.append_nil]; exact hR) ⟨rfl, rfl, rfl, Nat.le_refl _, fun _ _ _ => rfl⟩ (.inl rfl))
  · refine wpList_append_own_at w hgd s x _ ho 0 e i0 z k bytes ht hi hz0 hz1 hz2 hzs hk v xs.length _ hs hR.1 ad ys.length c ys.flatten hx (flat_len hyk) hc (by intro q hq; obtain ⟨y, hy, hq⟩ := List.mem_flatten.1 hq; exact hone y hy q hq) h63 hbytes (Nat.zero_le _) ?_
    intro v' w' h1 h2 h3 h4
    refine h v' w' ⟨by simpa using h1, ?_⟩ h2 h4
    intro y hy
    rcases List.mem_append.1 hy with hy | hy
    · exact hR.2 y hy
    · exact hyk y hy

end Go.Proofs.YtachmkhbbbmioaaGreat

namespace Go.Proofs.YtachmkhbbbmioaaGreat
open Go.RowKit Go.Shelf

def elCells (x : El) : List Value := [.int .i64 x.c, .int .i64 x.k, .int .i64 x.r, .bool x.d]
def ckRow (S : CS) : List (List Value) := (List.range S.n).map fun i => [.int .i64 (S.cl i)]

/-- The document's copy at block yb: its clock, its log, what waits, its line. -/
structure RefAt (yb : Nat) (S : CS) (vc vl vw vL : Value) (log wt : List (List Value)) (w : World) : Prop where
  cp : w.heap[yb]? = some (.cells #[.int .i64 S.n, .int .i64 S.s, vc, .int .i64 S.g, vl, vw, vL] 118)
  ck : RowAt 3 1 vc (ckRow S) w
  lg : RowAt 88 8 vl log w
  wt : RowAt 88 8 vw wt w
  ln : RowAt 130 4 vL (S.L.map elCells) w
  ap : ∀ g, vl.ownBlock = some g → vw.ownBlock ≠ some g

def refOwn (yb : Nat) (vc vl vw vL : Value) : List Nat := yb :: (vc.ownBlock.toList ++ (vl.ownBlock.toList ++ (vw.ownBlock.toList ++ vL.ownBlock.toList)))

theorem RefAt.kept {yb : Nat} {S : CS} {vc vl vw vL : Value} {log wt : List (List Value)} {w w' : World} (h : RefAt yb S vc vl vw vL log wt w) (e : ∀ k ∈ refOwn yb vc vl vw vL, w'.heap[k]? = w.heap[k]?) : RefAt yb S vc vl vw vL log wt w' :=
  ⟨(e yb (by simp [refOwn])).trans h.cp, h.ck.kept (fun g hg => e g (by simp [refOwn, hg])), h.lg.kept (fun g hg => e g (by simp [refOwn, hg])), h.wt.kept (fun g hg => e g (by simp [refOwn, hg])), h.ln.kept (fun g hg => e g (by simp [refOwn, hg])), h.ap⟩

theorem RefAt.lt {yb : Nat} {S : CS} {vc vl vw vL : Value} {log wt : List (List Value)} {w : World} (h : RefAt yb S vc vl vw vL log wt w) : ∀ k ∈ refOwn yb vc vl vw vL, k < w.heap.size := by
  intro k hk
  simp only [refOwn, List.mem_cons, List.mem_append, Option.mem_toList] at hk
  rcases hk with rfl | hk | hk | hk | hk
  · exact lt_of_heap h.cp
  · exact h.ck.lt hk
  · exact h.lg.lt hk
  · exact h.wt.lt hk
  · exact h.ln.lt hk

theorem RefAt.below {yb : Nat} {S : CS} {vc vl vw vL : Value} {log wt : List (List Value)} {w w' : World} (h : RefAt yb S vc vl vw vL log wt w) (g : Below w.heap.size w w') : RefAt yb S vc vl vw vL log wt w' := h.kept (fun k hk => g.block k (h.lt k hk))
theorem RefAt.grown {yb : Nat} {S : CS} {vc vl vw vL : Value} {log wt : List (List Value)} {w w' : World} (h : RefAt yb S vc vl vw vL log wt w) (g : w.grownBy w' none) : RefAt yb S vc vl vw vL log wt w' := h.kept (fun k hk => g.block k (h.lt k hk) (by simp))

theorem infoElem : (Tryz.prog.info? 130).map (fun i => (i.zero, i.size, i.bytes)) = some (some (.agg #[.int .i64 0, .int .i64 0, .int .i64 0, .bool false]), 4, 32) := by kernel_rfl
theorem infoInts : (Tryz.prog.info? 3).map (fun i => (i.zero, i.size, i.bytes)) = some (some (.int .i64 0), 1, 8) := by kernel_rfl

theorem src_new (w : World) (xs : List Value) (e : TypeId) : SrcAt (w.alloc (.cells xs.toArray e)) (.slice (some ⟨w.heap.size, 0, none⟩) 1 1) [xs] := by
  refine .inr ⟨_, _, rfl, fun j y hj => ?_⟩
  have hk : (w.alloc (.cells xs.toArray e)).heap[w.heap.size]? = some (.cells xs.toArray e) := by rw [heap_alloc_at]; simp
  rw [at_add, Nat.zero_add, cell_blk hk j]
  simpa using hj

theorem el_len (L : List El) : ∀ y ∈ L.map elCells, y.length = 4 := by
  intro y hy
  obtain ⟨x, -, rfl⟩ := List.mem_map.1 hy
  rfl
theorem el_one (L : List El) : ∀ y ∈ L.map elCells, ∀ c ∈ y, c.oneCell' = true := by
  intro y hy c hc
  obtain ⟨x, -, rfl⟩ := List.mem_map.1 hy
  simp only [elCells, List.mem_cons, List.not_mem_nil, or_false] at hc
  rcases hc with rfl | rfl | rfl | rfl <;> rfl

theorem take_vis_gone {L : List El} {i : Nat} {x : El} (hi : L[i]? = some x) (hd : x.d = true) : vis (L.take (i + 1)) = vis (L.take i) := by
  rw [List.take_add_one, hi, vis_append]; simp [vis, hd]
theorem take_vis_there {L : List El} {i : Nat} {x : El} (hi : L[i]? = some x) (hd : x.d = false) : vis (L.take (i + 1)) = vis (L.take i) ++ [x] := by
  rw [List.take_add_one, hi, vis_append]; simp [vis, hd]
theorem vis_take_le (L : List El) (i : Nat) : (vis (L.take i)).length ≤ L.length := by
  have h1 : (vis (L.take i)).length ≤ (L.take i).length := List.length_filter_le _ _
  have h2 : (L.take i).length ≤ L.length := by simp; omega
  omega

set_option maxRecDepth 100000 in
set_option maxHeartbeats 2000000 in
/-- The elements that are there, in new memory. -/
theorem ref_there (yb : Nat) (S : CS) (vc vl vw vL : Value) (log wt : List (List Value)) (w : World) (h : RefAt yb S vc vl vw vL log wt w) (hlen : S.L.length ≤ 1000000) :
    Calls Tryz.prog 77 #[.pointer (some ⟨yb, 0, none⟩)] w fun e w' => ∃ v, e = .returned v ∧ RowAt 130 4 v ((vis S.L).map elCells) w' ∧ (∀ g, v.ownBlock = some g → w.heap.size ≤ g) ∧ Below w.heap.size w w' := by
  obtain ⟨aL, cL, rfl, hcL⟩ := h.ln.value
  rw [List.length_map] at hcL
  rw [List.length_map] at h
  have c6 : w.cell? ⟨yb, 6, none⟩ = some (.slice aL S.L.length cL) := cell_blk h.cp 6
  go_enter Tryz.func77, Tryz.ntmps77
  go_wp2_with fail
  go_loopg [3, 4] S.L.length (fun g s3 s4 wr => ∃ (i : Nat), s4 = .int .i64 i ∧ i ≤ S.L.length ∧ g = S.L.length - i ∧ RowAt 130 4 s3 ((vis (S.L.take i)).map elCells) wr ∧ (∀ g, s3.ownBlock = some g → w.heap.size ≤ g) ∧ Below w.heap.size w wr)
  case atStart => exact ⟨0, rfl, by omega, rfl, by simpa [vis] using row_nil _ _ _, by simp [Value.ownBlock], Below.refl _ _⟩
  case round =>
    obtain ⟨i, rfl, hil, hg, hR, hf, hB⟩ := hrel
    have d6 : wr.cell? ⟨yb, 6, none⟩ = some (.slice aL S.L.length cL) := (hB.cell (p := ⟨yb, 6, none⟩) (lt_of_heap h.cp)).trans c6
    by_cases hlt : i < S.L.length
    · have hli : (i : Int) < (S.L.length : Int) := by omega
      have hx : S.L[i]? = some S.L[i] := by simp [hlt]
      generalize S.L[i] = x at hx
      obtain ⟨gL, cap, cur, hv, hcap, hb, hcell⟩ := (h.ln.below hB).cell (i := i) (x := elCells x) (by simp [hx])
      simp only [Value.slice.injEq] at hv
      obtain ⟨rfl, -, rfl⟩ := hv
      have k0 : wr.cell? ⟨gL, i * 4, none⟩ = some (.int .i64 x.c) := (cell_blk hb (i * 4)).trans (hcell 0 _ rfl)
      have k1 : wr.cell? ⟨gL, i * 4 + 1, none⟩ = some (.int .i64 x.k) := (cell_blk hb (i * 4 + 1)).trans (hcell 1 _ rfl)
      have k2 : wr.cell? ⟨gL, i * 4 + 2, none⟩ = some (.int .i64 x.r) := (cell_blk hb (i * 4 + 2)).trans (hcell 2 _ rfl)
      have k3 : wr.cell? ⟨gL, i * 4 + 3, none⟩ = some (.bool x.d) := (cell_blk hb (i * 4 + 3)).trans (hcell 3 _ rfl)
      cases hd : x.d with
      | true =>
        rw [hd] at k3
        go_wp2_with fail
        go_roundg (S.L.length - (i + 1))
        case measure => omega
        case rel => exact ⟨i + 1, by go_num, by omega, rfl, by rw [take_vis_gone hx hd]; exact hR, hf, hB⟩
      | false =>
        have g1 : wr.grownBy (wr.alloc (.cells #[.int .i64 x.c, .int .i64 x.k, .int .i64 x.r, .bool x.d] 130)) none := grown_alloc (grown_refl _) _
        have hS1 : SrcAt (wr.alloc (.cells #[.int .i64 x.c, .int .i64 x.k, .int .i64 x.r, .bool x.d] 130)) (.slice (some ⟨wr.heap.size, 0, none⟩) 1 1) ([x].map elCells) := src_new wr (elCells x) _
        have hR1 := hR.grown g1
        have hB1 : Below w.heap.size w (wr.alloc (.cells #[.int .i64 x.c, .int .i64 x.k, .int .i64 x.r, .bool x.d] 130)) := hB.grown g1 hB.size (by simp)
        rw [hd] at k3 g1 hS1 hR1 hB1
        have hvl := vis_take_le S.L i
        have hsz := hB.size
        go_wp2_with (at_builtin; refine wpList_row Tryz.underlying116 infoElem rfl (by decide) rfl _ _ rfl u3 _ rfl hR1 _ _ rfl hS1 (el_len _) (el_one _) (by unfold maxLen; simp; omega) (by simp; omega) ?_; intro v' w' hR' hg' hat)
        have hf' : ∀ g, v'.ownBlock = some g → w.heap.size ≤ g := by
          intro g hg
          rcases hat with hat | hat
          · exact hf g (hat ▸ hg)
          · rw [hat] at hg
            cases hg
            simp only [World.size_alloc]; omega
        have hB' : Below w.heap.size w w' := hB1.grown hg' hB1.size hf
        rw [← List.map_append, ← take_vis_there hx hd] at hR'
        clear hR1 hS1 hg' g1 hat
        go_wp2_with fail
        go_roundg (S.L.length - (i + 1))
        case measure => omega
        case rel => exact ⟨i + 1, by go_num, by omega, rfl, hR', hf', hB'⟩
    · obtain rfl : i = S.L.length := by omega
      rw [List.take_length] at hR
      go_wp2_with fail
      go_ret
      exact ⟨_, rfl, hR, hf, hB⟩

end Go.Proofs.YtachmkhbbbmioaaGreat
