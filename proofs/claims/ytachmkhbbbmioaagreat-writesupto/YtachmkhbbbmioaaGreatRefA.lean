import Derived.Test.YtachmkhbbbmioaaGreatRowP
namespace Go.Proofs.YtachmkhbbbmioaaGreat
open Go.RowKit Go.Shelf

def elCells (x : El) : List Value := [.int .i64 x.c, .int .i64 x.k, .int .i64 x.r, .bool x.d]
def ckRow (S : CS) : List (List Value) := (List.range S.n).map fun i => [.int .i64 (S.cl i)]

/-- The document's copy at block yb: its clock, its log, what waits, its line. -/
structure RefAt (yb : Nat) (S : CS) (vc vl vw vL : Value) (log wt : List (List Value)) (w : World) : Prop where
  cp : w.heap[yb]? = some (.cells #[.int .i64 S.n, .int .i64 S.s, vc, .int .i64 S.g, vl, vw, vL] 118)
  ck : RowAt 3 1 vc (ckRow S) w
  lg : RowAt 88 8 vl log w
  wt : RowAt 88 8 vw wt w
  ln : RowAt 130 4 vL (S.L.map elCells) w
  ap : ∀ g, vl.ownBlock = some g → vw.ownBlock ≠ some g

def refOwn (yb : Nat) (vc vl vw vL : Value) : List Nat := yb :: (vc.ownBlock.toList ++ (vl.ownBlock.toList ++ (vw.ownBlock.toList ++ vL.ownBlock.toList)))

theorem RefAt.kept {yb : Nat} {S : CS} {vc vl vw vL : Value} {log wt : List (List Value)} {w w' : World} (h : RefAt yb S vc vl vw vL log wt w) (e : ∀ k ∈ refOwn yb vc vl vw vL, w'.heap[k]? = w.heap[k]?) : RefAt yb S vc vl vw vL log wt w' :=
  ⟨(e yb (by simp [refOwn])).trans h.cp, h.ck.kept (fun g hg => e g (by simp [refOwn, hg])), h.lg.kept (fun g hg => e g (by simp [refOwn, hg])), h.wt.kept (fun g hg => e g (by simp [refOwn, hg])), h.ln.kept (fun g hg => e g (by simp [refOwn, hg])), h.ap⟩

theorem RefAt.lt {yb : Nat} {S : CS} {vc vl vw vL : Value} {log wt : List (List Value)} {w : World} (h : RefAt yb S vc vl vw vL log wt w) : ∀ k ∈ refOwn yb vc vl vw vL, k < w.heap.size := by
  intro k hk
  simp only [refOwn, List.mem_cons, List.mem_append, Option.mem_toList] at hk
  rcases hk with rfl | hk | hk | hk | hk
  · exact lt_of_heap h.cp
  · exact h.ck.lt hk
  · exact h.lg.lt hk
  · exact h.wt.lt hk
  · exact h.ln.lt hk

theorem RefAt.below {yb : Nat} {S : CS} {vc vl vw vL : Value} {log wt : List (List Value)} {w w' : World} (h : RefAt yb S vc vl vw vL log wt w) (g : Below w.heap.size w w') : RefAt yb S vc vl vw vL log wt w' := h.kept (fun k hk => g.block k (h.lt k hk))
theorem RefAt.grown {yb : Nat} {S : CS} {vc vl vw vL : Value} {log wt : List (List Value)} {w w' : World} (h : RefAt yb S vc vl vw vL log wt w) (g : w.grownBy w' none) : RefAt yb S vc vl vw vL log wt w' := h.kept (fun k hk => g.block k (h.lt k hk) (by simp))

theorem infoElem : (Tryz.prog.info? 130).map (fun i => (i.zero, i.size, i.bytes)) = some (some (.agg #[.int .i64 0, .int .i64 0, .int .i64 0, .bool false]), 4, 32) := by kernel_rfl
theorem infoInts : (Tryz.prog.info? 3).map (fun i => (i.zero, i.size, i.bytes)) = some (some (.int .i64 0), 1, 8) := by kernel_rfl

theorem src_new (w : World) (xs : List Value) (e : TypeId) : SrcAt (w.alloc (.cells xs.toArray e)) (.slice (some ⟨w.heap.size, 0, none⟩) 1 1) [xs] := by
  refine .inr ⟨_, _, rfl, fun j y hj => ?_⟩
  have hk : (w.alloc (.cells xs.toArray e)).heap[w.heap.size]? = some (.cells xs.toArray e) := by rw [heap_alloc_at]; simp
  rw [at_add, Nat.zero_add, cell_blk hk j]
  simpa using hj

theorem el_len (L : List El) : ∀ y ∈ L.map elCells, y.length = 4 := by
  intro y hy
  obtain ⟨x, -, rfl⟩ := List.mem_map.1 hy
  rfl
theorem el_one (L : List El) : ∀ y ∈ L.map elCells, ∀ c ∈ y, c.oneCell' = true := by
  intro y hy c hc
  obtain ⟨x, -, rfl⟩ := List.mem_map.1 hy
  simp only [elCells, List.mem_cons, List.not_mem_nil, or_false] at hc
  rcases hc with rfl | rfl | rfl | rfl <;> rfl

theorem take_vis_gone {L : List El} {i : Nat} {x : El} (hi : L[i]? = some x) (hd : x.d = true) : vis (L.take (i + 1)) = vis (L.take i) := by
  rw [List.take_add_one, hi, vis_append]; simp [vis, hd]
theorem take_vis_there {L : List El} {i : Nat} {x : El} (hi : L[i]? = some x) (hd : x.d = false) : vis (L.take (i + 1)) = vis (L.take i) ++ [x] := by
  rw [List.take_add_one, hi, vis_append]; simp [vis, hd]
theorem vis_take_le (L : List El) (i : Nat) : (vis (L.take i)).length ≤ L.length := by
  have h1 : (vis (L.take i)).length ≤ (L.take i).length := List.length_filter_le _ _
  have h2 : (L.take i).length ≤ L.length := by simp; omega
  omega

set_option maxRecDepth 100000 in
set_option maxHeartbeats 2000000 in
/-- The elements that are there, in new memory. -/
theorem ref_there (yb : Nat) (S : CS) (vc vl vw vL : Value) (log wt : List (List Value)) (w : World) (h : RefAt yb S vc vl vw vL log wt w) (hlen : S.L.length ≤ 1000000) :
    Calls Tryz.prog 77 #[.pointer (some ⟨yb, 0, none⟩)] w fun e w' => ∃ v, e = .returned v ∧ RowAt 130 4 v ((vis S.L).map elCells) w' ∧ (∀ g, v.ownBlock = some g → w.heap.size ≤ g) ∧ Below w.heap.size w w' := by
  obtain ⟨aL, cL, rfl, hcL⟩ := h.ln.value
  rw [List.length_map] at hcL
  rw [List.length_map] at h
  have c6 : w.cell? ⟨yb, 6, none⟩ = some (.slice aL S.L.length cL) := cell_blk h.cp 6
  go_enter Tryz.func77, Tryz.ntmps77
  go_wp2_with fail
  go_loopg [3, 4] S.L.length (fun g s3 s4 wr => ∃ (i : Nat), s4 = .int .i64 i ∧ i ≤ S.L.length ∧ g = S.L.length - i ∧ RowAt 130 4 s3 ((vis (S.L.take i)).map elCells) wr ∧ (∀ g, s3.ownBlock = some g → w.heap.size ≤ g) ∧ Below w.heap.size w wr)
  case atStart => exact ⟨0, rfl, by omega, rfl, by simpa [vis] using row_nil _ _ _, by simp [Value.ownBlock], Below.refl _ _⟩
  case round =>
    obtain ⟨i, rfl, hil, hg, hR, hf, hB⟩ := hrel
    have d6 : wr.cell? ⟨yb, 6, none⟩ = some (.slice aL S.L.length cL) := (hB.cell (p := ⟨yb, 6, none⟩) (lt_of_heap h.cp)).trans c6
    by_cases hlt : i < S.L.length
    · have hli : (i : Int) < (S.L.length : Int) := by omega
      have hx : S.L[i]? = some S.L[i] := by simp [hlt]
      generalize S.L[i] = x at hx
      obtain ⟨gL, cap, cur, hv, hcap, hb, hcell⟩ := (h.ln.below hB).cell (i := i) (x := elCells x) (by simp [hx])
      simp only [Value.slice.injEq] at hv
      obtain ⟨rfl, -, rfl⟩ := hv
      have k0 : wr.cell? ⟨gL, i * 4, none⟩ = some (.int .i64 x.c) := (cell_blk hb (i * 4)).trans (hcell 0 _ rfl)
      have k1 : wr.cell? ⟨gL, i * 4 + 1, none⟩ = some (.int .i64 x.k) := (cell_blk hb (i * 4 + 1)).trans (hcell 1 _ rfl)
      have k2 : wr.cell? ⟨gL, i * 4 + 2, none⟩ = some (.int .i64 x.r) := (cell_blk hb (i * 4 + 2)).trans (hcell 2 _ rfl)
      have k3 : wr.cell? ⟨gL, i * 4 + 3, none⟩ = some (.bool x.d) := (cell_blk hb (i * 4 + 3)).trans (hcell 3 _ rfl)
      cases hd : x.d with
      | true =>
        rw [hd] at k3
        go_wp2_with fail
        go_roundg (S.L.length - (i + 1))
        case measure => omega
        case rel => exact ⟨i + 1, by go_num, by omega, rfl, by rw [take_vis_gone hx hd]; exact hR, hf, hB⟩
      | false =>
        have g1 : wr.grownBy (wr.alloc (.cells #[.int .i64 x.c, .int .i64 x.k, .int .i64 x.r, .bool x.d] 130)) none := grown_alloc (grown_refl _) _
        have hS1 : SrcAt (wr.alloc (.cells #[.int .i64 x.c, .int .i64 x.k, .int .i64 x.r, .bool x.d] 130)) (.slice (some ⟨wr.heap.size, 0, none⟩) 1 1) ([x].map elCells) := src_new wr (elCells x) _
        have hR1 := hR.grown g1
        have hB1 : Below w.heap.size w (wr.alloc (.cells #[.int .i64 x.c, .int .i64 x.k, .int .i64 x.r, .bool x.d] 130)) := hB.grown g1 hB.size (by simp)
        rw [hd] at k3 g1 hS1 hR1 hB1
        have hvl := vis_take_le S.L i
        have hsz := hB.size
        go_wp2_with (at_builtin; refine wpList_row Tryz.underlying116 infoElem rfl (by decide) rfl _ _ rfl u3 _ rfl hR1 _ _ rfl hS1 (el_len _) (el_one _) (by unfold maxLen; simp; omega) (by simp; omega) ?_; intro v' w' hR' hg' hat)
        have hf' : ∀ g, v'.ownBlock = some g → w.heap.size ≤ g := by
          intro g hg
          rcases hat with hat | hat
          · exact hf g (hat ▸ hg)
          · rw [hat] at hg
            cases hg
            simp only [World.size_alloc]; omega
        have hB' : Below w.heap.size w w' := hB1.grown hg' hB1.size hf
        rw [← List.map_append, ← take_vis_there hx hd] at hR'
        clear hR1 hS1 hg' g1 hat
        go_wp2_with fail
        go_roundg (S.L.length - (i + 1))
        case measure => omega
        case rel => exact ⟨i + 1, by go_num, by omega, rfl, hR', hf', hB'⟩
    · obtain rfl : i = S.L.length := by omega
      rw [List.take_length] at hR
      go_wp2_with fail
      go_ret
      exact ⟨_, rfl, hR, hf, hB⟩

end Go.Proofs.YtachmkhbbbmioaaGreat
