import Derived.Test.YtachmkhbbbmioaaGreatWtCX
import Derived.Deep.RegionLaw
import Derived.Deep.AppendLies
import Derived.Test.YtachmkhbbbmioaaGreatRefOX
namespace Go.Proofs.YtachmkhbbbmioaaGreat
open Go.RowKit Go.Shelf

/-- A list that came out, and those made of it: all full of the owner's mark. -/
structure IR where
  l : Value
  a : Value
  b : Value
  c : Value
  n : Nat
  m : Int

def irCells (r : IR) : List Value := [r.l, r.a, r.b, r.c, .int .i64 r.m]
def IR.own (r : IR) : List Nat := r.l.ownBlock.toList ++ (r.a.ownBlock.toList ++ (r.b.ownBlock.toList ++ r.c.ownBlock.toList))

structure IntsAt (r : IR) (w : World) : Prop where
  l : RowAt 3 1 r.l (fullRow r.n r.m) w
  a : RowAt 3 1 r.a (fullRow (r.n + 1) r.m) w
  b : RowAt 3 1 r.b (fullRow (r.n + 2) r.m) w
  c : RowAt 3 1 r.c (fullRow (r.n + 3) r.m) w
  n8 : r.n ≤ 8

theorem IntsAt.kept {r : IR} {w w' : World} (h : IntsAt r w) (e : ∀ k ∈ r.own, w'.heap[k]? = w.heap[k]?) : IntsAt r w' :=
  ⟨h.l.kept (fun g hg => e g (by simp [IR.own, hg])), h.a.kept (fun g hg => e g (by simp [IR.own, hg])), h.b.kept (fun g hg => e g (by simp [IR.own, hg])), h.c.kept (fun g hg => e g (by simp [IR.own, hg])), h.n8⟩

theorem IntsAt.lt {r : IR} {w : World} (h : IntsAt r w) : ∀ k ∈ r.own, k < w.heap.size := by
  intro k hk
  simp only [IR.own, List.mem_append, Option.mem_toList] at hk
  rcases hk with hk | hk | hk | hk
  · exact h.l.lt hk
  · exact h.a.lt hk
  · exact h.b.lt hk
  · exact h.c.lt hk

theorem infoIR : (Tryz.prog.info? 95).map (fun i => (i.zero, i.size, i.bytes)) = some (some (.agg #[.slice none 0 0, .slice none 0 0, .slice none 0 0, .slice none 0 0, .int .i64 0]), 5, 104) := by kernel_rfl

theorem full_step (n i : Nat) (M : Int) (xs : List (List Value)) (x : List Value) (hi : xs[i]? = some x) (hx : x.length = 1) (_hn : i < n) : (fullRow i M ++ xs.drop i).set i (x.set 0 (.int .i64 M)) = fullRow (i + 1) M ++ xs.drop (i + 1) := by
  have hlt := (List.getElem?_eq_some_iff.1 hi).1
  have hd : xs.drop i = x :: xs.drop (i + 1) := by
    rw [List.drop_eq_getElem_cons hlt]
    congr 1
    exact (List.getElem?_eq_some_iff.1 hi).2
  rw [hd, List.set_append_right _ _ (by simp [fullRow]), fullRow_len, Nat.sub_self, List.set_cons_zero]
  obtain ⟨y, rfl⟩ : ∃ y, x = [y] := List.length_eq_one_iff.1 hx
  show fullRow i M ++ [.int .i64 M] :: xs.drop (i + 1) = _
  unfold fullRow
  rw [List.replicate_succ', List.append_assoc]
  rfl

theorem full_add (n k : Nat) (M : Int) : fullRow n M ++ List.replicate k [.int .i64 M] = fullRow (n + k) M := by
  unfold fullRow; rw [List.replicate_append_replicate]

theorem flat_rep (n : Nat) (x : Value) : (List.replicate n [x]).flatten = List.replicate n x := by
  induction n with
  | zero => rfl
  | succ n ih => rw [List.replicate_succ, List.flatten_cons, ih, List.replicate_succ]; rfl

theorem src_rep (w : World) (k : Nat) (M : Int) (e : TypeId) : ∀ (j : Nat) (y : Value), (List.replicate k [Value.int .i64 M]).flatten[j]? = some y → (w.alloc (.cells (List.replicate k (Value.int .i64 M)).toArray e)).cell? ((⟨w.heap.size, 0, none⟩ : Addr).add j) = some y := by
  intro j y hj
  have hk : (w.alloc (.cells (List.replicate k (Value.int .i64 M)).toArray e)).heap[w.heap.size]? = some (.cells (List.replicate k (Value.int .i64 M)).toArray e) := by rw [heap_alloc_at]; simp
  rw [at_add, Nat.zero_add, cell_blk hk j, List.getElem?_toArray]
  rw [flat_rep] at hj
  exact hj

theorem rep_len (k : Nat) (M : Int) : ∀ y ∈ List.replicate k [Value.int .i64 M], y.length = 1 := by
  intro y hy
  rw [List.eq_of_mem_replicate hy]; rfl

set_option maxRecDepth 100000 in
set_option maxHeartbeats 4000000 in
theorem keep_ints (wb g n : Nat) (a0 a1 a3 vi : Value) (irs : List IR) (xs : List (List Value)) (w : World) (hw : w.heap[wb]? = some (.cells #[a0, a1, vi, a3] 33)) (hi : RowAt 95 5 vi (irs.map irCells) w)
    (hl : RowAt 3 1 (.slice (some ⟨g, 0, none⟩) n n) xs w) (hxn : xs.length = n) (hn8 : n ≤ 8) (hlen : irs.length ≤ 2000000) :
    Calls Tryz.prog 48 #[.pointer (some ⟨wb, 0, none⟩), .slice (some ⟨g, 0, none⟩) n n] w fun e w' => e = .returned (.tuple #[]) ∧ ∃ r vi', IntsAt r w' ∧ w'.heap[wb]? = some (.cells #[a0, a1, vi', a3] 33) ∧
      RowAt 95 5 vi' ((irs ++ [r]).map irCells) w' ∧ Fr (wb :: g :: vi.ownBlock.toList) w w' ∧ (∀ k ∈ r.own, k = g ∨ w.heap.size ≤ k) ∧ (∀ k, vi'.ownBlock = some k → vi.ownBlock = some k ∨ w.heap.size ≤ k) := by
  obtain ⟨ai, ci, hvi, hci⟩ := hi.value
  rw [List.length_map] at hvi hci
  have c2 : w.cell? ⟨wb, 2, none⟩ = some vi := cell_blk hw 2
  rw [hvi] at c2
  have hgw : g ≠ wb := fun q => hl.neBlk hw (by decide) (q ▸ rfl)
  have hgv : vi.ownBlock ≠ some g := fun q => hl.ne hi (by decide) rfl q
  have hglt : g < w.heap.size := hl.lt rfl
  have hwlt : wb < w.heap.size := lt_of_heap hw
  obtain ⟨M, hM⟩ : ∃ M : Int, 1000 + (irs.length : Int) = M := ⟨_, rfl⟩
  have hMw : IntKind.i64.wrap (1000 + (irs.length : Int)) = M := by rw [IntKind.wrap_i64]; omega
  go_enter Tryz.func48, Tryz.ntmps48
  go_wp2_with fail
  clear c2 hMw
  have hM1 := hide hM
  clear hM
  go_loopg [5] n (fun gk s5 wr => ∃ (i : Nat), s5 = .int .i64 i ∧ i ≤ n ∧ gk = n - i ∧ RowAt 3 1 (.slice (some ⟨g, 0, none⟩) n n) (fullRow i M ++ xs.drop i) wr ∧ Fr [g] w wr)
  case atStart => exact ⟨0, rfl, by omega, rfl, by simpa [fullRow] using hl, Fr.refl _ _⟩
  case round =>
    obtain ⟨i, rfl, hin, hgk, hR, hF⟩ := hrel
    by_cases hlt : i < n
    · have hli : (i : Int) < (n : Int) := by omega
      have hx : xs[i]? = some xs[i] := by simp [hxn, hlt]
      have hx1 : (xs[i]).length = 1 := hl.2 _ (List.getElem_mem _)
      generalize xs[i] = x at hx hx1
      have hxi : (fullRow i M ++ xs.drop i)[i]? = some x := by
        rw [List.getElem?_append_right (by simp [fullRow]), fullRow_len, Nat.sub_self, List.getElem?_drop]; simpa using hx
      have hset := hR.set (i := i) (j := 0) (y := .int .i64 M) hxi (by omega)
      rw [full_step n i M xs x hx hx1 hlt, Nat.mul_one, Nat.add_zero] at hset
      obtain ⟨y, rfl⟩ : ∃ y, x = [y] := List.length_eq_one_iff.1 hx1
      obtain ⟨g', c', cur, hv', -, hb, hcell⟩ := hR.cell hxi
      have hlR : (fullRow i M ++ xs.drop i).length = n := by simp [fullRow]; omega
      rw [hlR] at hv'
      cases hv'
      have d1 : wr.cell? ⟨g, i, none⟩ = some y := (cell_blk hb _).trans (by simpa using hcell 0 _ rfl)
      have f1 : wr.frozen? ⟨g, i, none⟩ = false := frozen_blk hb _
      have hF' := hF.setCell (p := ⟨g, i, none⟩) (.inl (by simp)) (.int .i64 M)
      clear hR hxi hcell hx hx1
      go_wp2_with fail
      go_roundg (n - (i + 1))
      case measure => omega
      case rel => exact ⟨i + 1, by go_num, by omega, rfl, hset, hF'⟩
    · obtain rfl : i = n := by omega
      have hR1 : RowAt 3 1 (.slice (some ⟨g, 0, none⟩) i i) (fullRow i M) wr := by
        have := hR
        rw [List.drop_of_length_le (by omega), List.append_nil] at this
        exact this
      have hws : wr.heap[wb]? = some (.cells #[a0, a1, vi, a3] 33) := hF.blk hw (by simpa using Ne.symm hgw)
      have hi1 : RowAt 95 5 vi (irs.map irCells) wr := hi.kept (fun k hk => hF.block k (hi.lt hk) (by simp; exact fun q => hgv (q ▸ hk)))
      have hs1 : w.heap.size ≤ wr.heap.size := hF.size
      clear hR
      go_upto_region 6 with fail
      have g2 : wr.grownBy (wr.alloc (.cells #[.slice (some ⟨g, 0, none⟩) i i, .slice none 0 0, .slice none 0 0, .slice none 0 0, .int .i64 M] 95)) none := grown_alloc (grown_refl _) _
      have kx : (wr.alloc (.cells #[.slice (some ⟨g, 0, none⟩) i i, .slice none 0 0, .slice none 0 0, .slice none 0 0, .int .i64 M] 95)).heap[wr.heap.size]? = some (.cells #[.slice (some ⟨g, 0, none⟩) i i, .slice none 0 0, .slice none 0 0, .slice none 0 0, .int .i64 M] 95) := by rw [heap_alloc_at]; simp
      have hl2 := hR1.grown g2
      have hi2 := hi1.grown g2
      have hw2 := (g2.block _ (lt_of_heap hws) (by simp)).trans hws
      have hF2 := hF.grown g2 (by simp)
      have hvx : vi.ownBlock ≠ some wr.heap.size := fun q => by have := hi1.lt q; omega
      have hwx : wb ≠ wr.heap.size := by omega
      have hgx : g ≠ wr.heap.size := by omega
      generalize (wr.alloc (.cells #[.slice (some ⟨g, 0, none⟩) i i, .slice none 0 0, .slice none 0 0, .slice none 0 0, .int .i64 M] 95)) = w2 at kx hl2 hi2 hw2 hF2 ⊢
      clear hl hR1 hi1 hws g2 hF
      generalize wr.heap.size = bx at kx hs1 hvx hwx hgx ⊢
      have gA1 : w2.grownBy (w2.alloc (.cells #[.int .i64 M] 3)) none := grown_alloc (grown_refl _) _
      have hlA1 := hl2.grown gA1
      have kA1 := (gA1.block _ (lt_of_heap kx) (by simp)).trans kx
      have hbx1 : bx < w2.heap.size := lt_of_heap kx
      go_upto_region 7 with (at_builtin; refine wpList_full Tryz.underlying40 infoInts rfl rfl _ _ rfl g i i (fullRow i M) rfl hlA1 ⟨w2.heap.size, 0, none⟩ 1 1 (List.replicate 1 [.int .i64 M]) rfl (by simp) (src_rep w2 1 M 3) (rep_len 1 M) (by omega) (by unfold maxLen; omega) (by omega) ?_; intro c1 u1 hRk hgk hsz; have dk : u1.cell? ⟨bx, 1, none⟩ = some (.slice none 0 0) := cell_blk ((hgk.block _ (lt_of_heap kA1) (by simp)).trans kA1) 1; have fk : u1.frozen? ⟨bx, 1, none⟩ = false := frozen_blk ((hgk.block _ (lt_of_heap kA1) (by simp)).trans kA1) 1)
      have hb1 : w2.heap.size + 1 = (w2.alloc (.cells #[.int .i64 M] 3)).heap.size := by simp
      have E1 : ∀ q, q < w2.heap.size → q ≠ bx → (u1.setCell ⟨bx, 1, none⟩ (.slice (some ⟨w2.heap.size + 1, 0, none⟩) (i + 1) c1)).heap[q]? = w2.heap[q]? := fun q hq hn => by
        rw [Below.heap_setCell _ _ _ _ hn, hgk.block q (by rw [← hb1]; omega) (by simp)]
        exact Below.heap_alloc _ _ _ hq
      rw [← hb1] at hRk
      have kx1 : (u1.setCell ⟨bx, 1, none⟩ (.slice (some ⟨w2.heap.size + 1, 0, none⟩) (i + 1) c1)).heap[bx]? = some (.cells #[(.slice (some ⟨g, 0, none⟩) i i), .slice (some ⟨w2.heap.size + 1, 0, none⟩) (i + 1) c1, (.slice none 0 0), (.slice none 0 0), (.int .i64 M)] 95) := by
        rw [set_blk ((hgk.block _ (lt_of_heap kA1) (by simp)).trans kA1)]; rfl
      have hv1 : RowAt 3 1 (.slice (some ⟨w2.heap.size + 1, 0, none⟩) (i + 1) c1) (fullRow (i + 1) M) (u1.setCell ⟨bx, 1, none⟩ (.slice (some ⟨w2.heap.size + 1, 0, none⟩) (i + 1) c1)) := by
        rw [← full_add]
        exact hRk.kept (fun q hq => Below.heap_setCell _ _ _ _ (by cases hq; simp; omega))
      have hl3 := hl2.kept (w' := u1.setCell ⟨bx, 1, none⟩ (.slice (some ⟨w2.heap.size + 1, 0, none⟩) (i + 1) c1)) (fun q hq => E1 q (hl2.lt hq) (by cases hq; exact hgx))
      have hi3 := hi2.kept (w' := u1.setCell ⟨bx, 1, none⟩ (.slice (some ⟨w2.heap.size + 1, 0, none⟩) (i + 1) c1)) (fun q hq => E1 q (hi2.lt hq) (fun e => hvx (e ▸ hq)))
      have hw3 := (E1 wb (lt_of_heap hw2) hwx).trans hw2
      have hF3 := ((hF2.grown gA1 (by simp)).grown hgk (by simp)).setCell (p := ⟨bx, 1, none⟩) (.inr (by simpa using hs1)) (.slice (some ⟨w2.heap.size + 1, 0, none⟩) (i + 1) c1)
      have hsb1 : w.heap.size ≤ w2.heap.size + 1 := by have := hF2.size; omega
      generalize (u1.setCell ⟨bx, 1, none⟩ (.slice (some ⟨w2.heap.size + 1, 0, none⟩) (i + 1) c1)) = w3 at kx1 hv1 hl3 hi3 hw3 hF3  ⊢
      clear E1 hRk hgk dk fk hlA1 gA1 kA1 kx hl2 hi2 hw2 hF2 hb1 hbx1 hsz 
      generalize w2.heap.size + 1 = b1 at kx1 hv1 hsb1 hF3 ⊢
      rename w3.heap[bx]? = _ => kx
      have gA2 : w3.grownBy (w3.alloc (.cells #[.int .i64 M, .int .i64 M] 3)) none := grown_alloc (grown_refl _) _
      have hlA2 := hl3.grown gA2
      have kA2 := (gA2.block _ (lt_of_heap kx) (by simp)).trans kx
      have hbx2 : bx < w3.heap.size := lt_of_heap kx
      go_upto_region 8 with (at_builtin; refine wpList_full Tryz.underlying40 infoInts rfl rfl _ _ rfl g i i (fullRow i M) rfl hlA2 ⟨w3.heap.size, 0, none⟩ 2 2 (List.replicate 2 [.int .i64 M]) rfl (by simp) (src_rep w3 2 M 3) (rep_len 2 M) (by omega) (by unfold maxLen; omega) (by omega) ?_; intro c2 u2 hRk hgk hsz; have dk : u2.cell? ⟨bx, 2, none⟩ = some (.slice none 0 0) := cell_blk ((hgk.block _ (lt_of_heap kA2) (by simp)).trans kA2) 2; have fk : u2.frozen? ⟨bx, 2, none⟩ = false := frozen_blk ((hgk.block _ (lt_of_heap kA2) (by simp)).trans kA2) 2)
      have hb2 : w3.heap.size + 1 = (w3.alloc (.cells #[.int .i64 M, .int .i64 M] 3)).heap.size := by simp
      have E2 : ∀ q, q < w3.heap.size → q ≠ bx → (u2.setCell ⟨bx, 2, none⟩ (.slice (some ⟨w3.heap.size + 1, 0, none⟩) (i + 2) c2)).heap[q]? = w3.heap[q]? := fun q hq hn => by
        rw [Below.heap_setCell _ _ _ _ hn, hgk.block q (by rw [← hb2]; omega) (by simp)]
        exact Below.heap_alloc _ _ _ hq
      rw [← hb2] at hRk
      have kx2 : (u2.setCell ⟨bx, 2, none⟩ (.slice (some ⟨w3.heap.size + 1, 0, none⟩) (i + 2) c2)).heap[bx]? = some (.cells #[(.slice (some ⟨g, 0, none⟩) i i), (.slice (some ⟨b1, 0, none⟩) (i + 1) c1), .slice (some ⟨w3.heap.size + 1, 0, none⟩) (i + 2) c2, (.slice none 0 0), (.int .i64 M)] 95) := by
        rw [set_blk ((hgk.block _ (lt_of_heap kA2) (by simp)).trans kA2)]; rfl
      have hv2 : RowAt 3 1 (.slice (some ⟨w3.heap.size + 1, 0, none⟩) (i + 2) c2) (fullRow (i + 2) M) (u2.setCell ⟨bx, 2, none⟩ (.slice (some ⟨w3.heap.size + 1, 0, none⟩) (i + 2) c2)) := by
        rw [← full_add]
        exact hRk.kept (fun q hq => Below.heap_setCell _ _ _ _ (by cases hq; simp; omega))
      have hl4 := hl3.kept (w' := u2.setCell ⟨bx, 2, none⟩ (.slice (some ⟨w3.heap.size + 1, 0, none⟩) (i + 2) c2)) (fun q hq => E2 q (hl3.lt hq) (by cases hq; exact hgx))
      have hi4 := hi3.kept (w' := u2.setCell ⟨bx, 2, none⟩ (.slice (some ⟨w3.heap.size + 1, 0, none⟩) (i + 2) c2)) (fun q hq => E2 q (hi3.lt hq) (fun e => hvx (e ▸ hq)))
      have hw4 := (E2 wb (lt_of_heap hw3) hwx).trans hw3
      have hF4 := ((hF3.grown gA2 (by simp)).grown hgk (by simp)).setCell (p := ⟨bx, 2, none⟩) (.inr (by simpa using hs1)) (.slice (some ⟨w3.heap.size + 1, 0, none⟩) (i + 2) c2)
      have hv1' := hv1.kept (w' := u2.setCell ⟨bx, 2, none⟩ (.slice (some ⟨w3.heap.size + 1, 0, none⟩) (i + 2) c2)) (fun q hq => E2 q (hv1.lt hq) (fun e => hv1.neBlk kx (by decide) (e ▸ hq)))
      have hsb2 : w.heap.size ≤ w3.heap.size + 1 := by have := hF3.size; omega
      generalize (u2.setCell ⟨bx, 2, none⟩ (.slice (some ⟨w3.heap.size + 1, 0, none⟩) (i + 2) c2)) = w4 at kx2 hv2 hl4 hi4 hw4 hF4 hv1' ⊢
      clear E2 hRk hgk dk fk hlA2 gA2 kA2 kx hl3 hi3 hw3 hF3 hb2 hbx2 hsz hv1
      rename RowAt 3 1 (.slice (some ⟨b1, 0, none⟩) (i + 1) c1) (fullRow (i + 1) M) w4 => hv1
      generalize w3.heap.size + 1 = b2 at kx2 hv2 hsb2 hF4 ⊢
      rename w4.heap[bx]? = _ => kx
      have gA3 : w4.grownBy (w4.alloc (.cells #[.int .i64 M, .int .i64 M, .int .i64 M] 3)) none := grown_alloc (grown_refl _) _
      have hlA3 := hl4.grown gA3
      have kA3 := (gA3.block _ (lt_of_heap kx) (by simp)).trans kx
      have hbx3 : bx < w4.heap.size := lt_of_heap kx
      go_upto_region 9 with (at_builtin; refine wpList_full Tryz.underlying40 infoInts rfl rfl _ _ rfl g i i (fullRow i M) rfl hlA3 ⟨w4.heap.size, 0, none⟩ 3 3 (List.replicate 3 [.int .i64 M]) rfl (by simp) (src_rep w4 3 M 3) (rep_len 3 M) (by omega) (by unfold maxLen; omega) (by omega) ?_; intro c3 u3 hRk hgk hsz; have dk : u3.cell? ⟨bx, 3, none⟩ = some (.slice none 0 0) := cell_blk ((hgk.block _ (lt_of_heap kA3) (by simp)).trans kA3) 3; have fk : u3.frozen? ⟨bx, 3, none⟩ = false := frozen_blk ((hgk.block _ (lt_of_heap kA3) (by simp)).trans kA3) 3)
      have hb3 : w4.heap.size + 1 = (w4.alloc (.cells #[.int .i64 M, .int .i64 M, .int .i64 M] 3)).heap.size := by simp
      have E3 : ∀ q, q < w4.heap.size → q ≠ bx → (u3.setCell ⟨bx, 3, none⟩ (.slice (some ⟨w4.heap.size + 1, 0, none⟩) (i + 3) c3)).heap[q]? = w4.heap[q]? := fun q hq hn => by
        rw [Below.heap_setCell _ _ _ _ hn, hgk.block q (by rw [← hb3]; omega) (by simp)]
        exact Below.heap_alloc _ _ _ hq
      rw [← hb3] at hRk
      have kx3 : (u3.setCell ⟨bx, 3, none⟩ (.slice (some ⟨w4.heap.size + 1, 0, none⟩) (i + 3) c3)).heap[bx]? = some (.cells #[(.slice (some ⟨g, 0, none⟩) i i), (.slice (some ⟨b1, 0, none⟩) (i + 1) c1), (.slice (some ⟨b2, 0, none⟩) (i + 2) c2), .slice (some ⟨w4.heap.size + 1, 0, none⟩) (i + 3) c3, (.int .i64 M)] 95) := by
        rw [set_blk ((hgk.block _ (lt_of_heap kA3) (by simp)).trans kA3)]; rfl
      have hv3 : RowAt 3 1 (.slice (some ⟨w4.heap.size + 1, 0, none⟩) (i + 3) c3) (fullRow (i + 3) M) (u3.setCell ⟨bx, 3, none⟩ (.slice (some ⟨w4.heap.size + 1, 0, none⟩) (i + 3) c3)) := by
        rw [← full_add]
        exact hRk.kept (fun q hq => Below.heap_setCell _ _ _ _ (by cases hq; simp; omega))
      have hl5 := hl4.kept (w' := u3.setCell ⟨bx, 3, none⟩ (.slice (some ⟨w4.heap.size + 1, 0, none⟩) (i + 3) c3)) (fun q hq => E3 q (hl4.lt hq) (by cases hq; exact hgx))
      have hi5 := hi4.kept (w' := u3.setCell ⟨bx, 3, none⟩ (.slice (some ⟨w4.heap.size + 1, 0, none⟩) (i + 3) c3)) (fun q hq => E3 q (hi4.lt hq) (fun e => hvx (e ▸ hq)))
      have hw5 := (E3 wb (lt_of_heap hw4) hwx).trans hw4
      have hF5 := ((hF4.grown gA3 (by simp)).grown hgk (by simp)).setCell (p := ⟨bx, 3, none⟩) (.inr (by simpa using hs1)) (.slice (some ⟨w4.heap.size + 1, 0, none⟩) (i + 3) c3)
      have hv1' := hv1.kept (w' := u3.setCell ⟨bx, 3, none⟩ (.slice (some ⟨w4.heap.size + 1, 0, none⟩) (i + 3) c3)) (fun q hq => E3 q (hv1.lt hq) (fun e => hv1.neBlk kx (by decide) (e ▸ hq)))
      have hv2' := hv2.kept (w' := u3.setCell ⟨bx, 3, none⟩ (.slice (some ⟨w4.heap.size + 1, 0, none⟩) (i + 3) c3)) (fun q hq => E3 q (hv2.lt hq) (fun e => hv2.neBlk kx (by decide) (e ▸ hq)))
      have hsb3 : w.heap.size ≤ w4.heap.size + 1 := by have := hF4.size; omega
      generalize (u3.setCell ⟨bx, 3, none⟩ (.slice (some ⟨w4.heap.size + 1, 0, none⟩) (i + 3) c3)) = w5 at kx3 hv3 hl5 hi5 hw5 hF5 hv1' hv2' ⊢
      clear E3 hRk hgk dk fk hlA3 gA3 kA3 kx hl4 hi4 hw4 hF4 hb3 hbx3 hsz hv1 hv2
      rename RowAt 3 1 (.slice (some ⟨b1, 0, none⟩) (i + 1) c1) (fullRow (i + 1) M) w5 => hv1
      rename RowAt 3 1 (.slice (some ⟨b2, 0, none⟩) (i + 2) c2) (fullRow (i + 2) M) w5 => hv2
      generalize w4.heap.size + 1 = b3 at kx3 hv3 hsb3 hF5 ⊢
      rename w5.heap[bx]? = _ => kx
      obtain ⟨i0, hi0, hz0, hz1, hz2⟩ := info_parts infoIR
      have y0 : w5.cell? ⟨wb, 2, none⟩ = some vi := cell_blk hw5 2
      have d0 : w5.cell? ⟨bx, 0, none⟩ = some (.slice (some ⟨g, 0, none⟩) i i) := cell_blk kx 0
      have d1 : w5.cell? ⟨bx, 1, none⟩ = some (.slice (some ⟨b1, 0, none⟩) (i + 1) c1) := cell_blk kx 1
      have d2 : w5.cell? ⟨bx, 2, none⟩ = some (.slice (some ⟨b2, 0, none⟩) (i + 2) c2) := cell_blk kx 2
      have d3 : w5.cell? ⟨bx, 3, none⟩ = some (.slice (some ⟨b3, 0, none⟩) (i + 3) c3) := cell_blk kx 3
      have d4 : w5.cell? ⟨bx, 4, none⟩ = some (.int .i64 M) := cell_blk kx 4
      have nwv : vi.ownBlock ≠ some wb := hi5.neBlk hw5 (by decide)
      have hwb5 : wb < w5.heap.size := lt_of_heap hw5
      have hs5 : w.heap.size ≤ w5.heap.size := hF5.size
      have hil : (irs.map irCells).length = irs.length := by simp
      have hown5 := hi5.1
      rw [hil] at hown5
      clear hvi
      go_region_law ((refine step_append_lies _ (by rfl) _ _ _ (by rfl) 0 95 i0 _ 5 104 Tryz.underlying30 hi0 hz0 hz1 hz2 rfl (by omega) vi irs.length (irs.map irCells).flatten (by rfl) ((hown5.alloc _).drew) ⟨w5.heap.size, 0, none⟩ 1 1 [.slice (some ⟨g, 0, none⟩) i i, .slice (some ⟨b1, 0, none⟩) (i + 1) c1, .slice (some ⟨b2, 0, none⟩) (i + 2) c2, .slice (some ⟨b3, 0, none⟩) (i + 3) c3, .int .i64 M] (by rfl) (by rfl) (World.news_of_block (cs := #[.slice (some ⟨g, 0, none⟩) i i, .slice (some ⟨b1, 0, none⟩) (i + 1) c1, .slice (some ⟨b2, 0, none⟩) (i + 2) c2, .slice (some ⟨b3, 0, none⟩) (i + 3) c3, .int .i64 M]) (t := 95) (fr := (0, 0)) (heap_alloc_new w5 _)) (by simp [Value.oneCell']) (by omega) (by unfold maxLen; omega) (by omega) (by simp) (w5.heap.size + 1) (by simp) ?_; intro gg capL w6 hown1 hgrow hat hlt6; have y5 : w6.heap[wb]? = w5.heap[wb]? := (hgrow.block wb (by simp; omega) (Ne.symm nwv)).trans (Below.heap_alloc _ _ _ hwb5); have y4 : w6.cell? ⟨wb, 2, none⟩ = some vi := (World.cell?_of_block (a := ⟨wb, 2, none⟩) y5).trans y0; have f4 : w6.frozen? ⟨wb, 2, none⟩ = false := (World.frozen?_of_block (a := ⟨wb, 2, none⟩) y5).trans (frozen_blk hw5 2)))
      all_goals go_end0
      all_goals
        have hgr : w5.grownBy w6 vi.ownBlock := grown_pre hgrow
        have ngw : gg ≠ wb := fun q => by
          rcases hat with hat | hat
          · exact nwv (q ▸ hat)
          · omega
        have E6 : ∀ q, q < w5.heap.size → vi.ownBlock ≠ some q → q ≠ wb → (w6.setCell ⟨wb, 2, none⟩ (.slice (some ⟨gg, 0, none⟩) (irs.length + 1) capL)).heap[q]? = w5.heap[q]? := fun q hq h1 h2 => (Below.heap_setCell _ _ _ _ h2).trans (hgr.block q hq (Ne.symm h1))
        have hrow : RowAt 95 5 (.slice (some ⟨gg, 0, none⟩) (irs.length + 1) capL) ((irs ++ [(⟨.slice (some ⟨g, 0, none⟩) i i, .slice (some ⟨b1, 0, none⟩) (i + 1) c1, .slice (some ⟨b2, 0, none⟩) (i + 2) c2, .slice (some ⟨b3, 0, none⟩) (i + 3) c3, i, M⟩ : IR)]).map irCells) w6 := by
          refine ⟨by simpa [irCells] using hown1, ?_⟩
          intro y hy
          obtain ⟨r, -, rfl⟩ := List.mem_map.1 hy
          rfl
        refine ⟨rfl, ⟨.slice (some ⟨g, 0, none⟩) i i, .slice (some ⟨b1, 0, none⟩) (i + 1) c1, .slice (some ⟨b2, 0, none⟩) (i + 2) c2, .slice (some ⟨b3, 0, none⟩) (i + 3) c3, i, M⟩, .slice (some ⟨gg, 0, none⟩) (irs.length + 1) capL, ⟨?_, ?_, ?_, ?_, hn8⟩, ?_, ?_, ?_, ?_, ?_⟩
        · exact hl5.kept (fun q hq => E6 q (hl5.lt hq) (hl5.ne hi5 (by decide) hq) (fun e => hl5.neBlk hw5 (by decide) (e ▸ hq)))
        · exact hv1.kept (fun q hq => E6 q (hv1.lt hq) (hv1.ne hi5 (by decide) hq) (fun e => hv1.neBlk hw5 (by decide) (e ▸ hq)))
        · exact hv2.kept (fun q hq => E6 q (hv2.lt hq) (hv2.ne hi5 (by decide) hq) (fun e => hv2.neBlk hw5 (by decide) (e ▸ hq)))
        · exact hv3.kept (fun q hq => E6 q (hv3.lt hq) (hv3.ne hi5 (by decide) hq) (fun e => hv3.neBlk hw5 (by decide) (e ▸ hq)))
        · exact (set_blk (y5.trans hw5)).trans rfl
        · exact hrow.kept (fun q hq => Below.heap_setCell _ _ _ _ (by cases hq; exact ngw))
        · exact ((hF5.mono (cs := wb :: g :: vi.ownBlock.toList) (by simp)).grown hgr (fun k hk => .inl (by simp [hk]))).setCell (p := ⟨wb, 2, none⟩) (.inl (by simp)) _
        · intro k hk
          simp only [IR.own, Value.ownBlock, Option.toList_some, List.cons_append, List.nil_append, List.mem_cons, List.not_mem_nil, or_false] at hk
          omega
        · intro k hk
          simp only [Value.ownBlock, Option.some.injEq] at hk
          subst hk
          rcases hat with hat | hat
          · exact .inl hat
          · right; omega

end Go.Proofs.YtachmkhbbbmioaaGreat

namespace Go.Proofs.YtachmkhbbbmioaaGreat
open Go.RowKit Go.Shelf

/-- A list that is full of one text. -/
def fullT (n : Nat) (M : List UInt8) : List (List Value) := List.replicate n [str M]
theorem fullT_len (n : Nat) (M : List UInt8) : (fullT n M).length = n := by simp [fullT]
theorem fullT_at {n i : Nat} {M : List UInt8} (h : i < n) : (fullT n M)[i]? = some [str M] := by simp [fullT, h]
theorem fullT_one (n : Nat) (M : List UInt8) : ∀ y ∈ fullT n M, y.length = 1 := by
  intro y hy
  rw [List.eq_of_mem_replicate hy]; rfl
theorem fullT_cell (n : Nat) (M : List UInt8) : ∀ y ∈ fullT n M, ∀ c ∈ y, c.oneCell' = true := by
  intro y hy c hc
  rw [List.eq_of_mem_replicate hy] at hc
  simp only [List.mem_cons, List.not_mem_nil, or_false] at hc
  rw [hc]; rfl
theorem fullT_flat (n : Nat) (M : List UInt8) : (fullT n M).flatten = List.replicate n (str M) := flat_rep n (str M)
theorem fullT_add (n k : Nat) (M : List UInt8) : fullT n M ++ fullT k M = fullT (n + k) M := by
  unfold fullT; rw [List.replicate_append_replicate]

/-- A full list stays so when the same text is written somewhere. -/
theorem full_set {u : Value} {p : Nat} {M : List UInt8} {w : World} (h : RowAt 9 1 u (fullT p M) w) (g idx : Nat) : RowAt 9 1 u (fullT p M) (w.setCell ⟨g, idx, none⟩ (str M)) := by
  refine ⟨⟨h.1.1, ?_⟩, h.2⟩
  rcases h.1.2 with h1 | ⟨b, cap, cur, h1, h2, hb, hle, hmx, hsz, htk⟩
  · exact .inl h1
  · by_cases q : b = g
    · subst q
      refine .inr ⟨b, cap, cur.setIfInBounds idx (str M), h1, h2, set_blk hb, hle, hmx, by simpa using hsz, ?_⟩
      rw [Array.toList_setIfInBounds, List.take_set, htk, fullT_flat, List.set_replicate_self]
    · exact .inr ⟨b, cap, cur, h1, h2, by rw [Below.heap_setCell _ _ _ _ q]; exact hb, hle, hmx, hsz, htk⟩

theorem full_sets {u : Value} {p : Nat} {M : List UInt8} (g : Nat) : ∀ (m o : Nat) {w : World}, RowAt 9 1 u (fullT p M) w → RowAt 9 1 u (fullT p M) (w.setCells g o (List.replicate m (str M)))
  | 0, _, _, h => h
  | m + 1, o, _, h => by
    rw [List.replicate_succ]
    exact full_sets g m (o + 1) (full_set h g o)

theorem setCells_size (g : Nat) : ∀ (vs : List Value) (o : Nat) (w : World), (w.setCells g o vs).heap.size = w.heap.size
  | [], _, _ => rfl
  | v :: vs, o, w => by simp only [World.setCells]; rw [setCells_size g vs]; simp [World.setCell]
theorem setCells_tape (g : Nat) : ∀ (vs : List Value) (o : Nat) (w : World), (w.setCells g o vs).tape = w.tape
  | [], _, _ => rfl
  | v :: vs, o, w => by simp only [World.setCells]; rw [setCells_tape g vs]; rfl
theorem setCells_blk (g : Nat) : ∀ (vs : List Value) (o : Nat) (w : World) {cur : Array Value} {e : TypeId}, w.heap[g]? = some (.cells cur e) → ∃ cur', (w.setCells g o vs).heap[g]? = some (.cells cur' e) ∧ cur'.size = cur.size
  | [], _, _, cur, _, h => ⟨cur, h, rfl⟩
  | v :: vs, o, w, cur, e, h => by
    obtain ⟨cur', h1, h2⟩ := setCells_blk g vs (o + 1) (w.setCell ⟨g, o, none⟩ v) (set_blk h)
    exact ⟨cur', h1, by rw [h2]; simp⟩

/-- APPEND of a text to a list that is full of it. -/
theorem wpList_fill {w : World} {ops : Array Oper} {rest : List Oper} {o : Oper} {a : Act} {Q : Exit → Act → World → Prop} (hgd : o.guard = none) (s x : Operand)
    (ho : o.op = .call { callee := .builtin .append, args := #[s, x], argTypes := #[26, 26] }) (v : Value) (n : Nat) (M : List UInt8) (hs : a.eval s = v) (hR : RowAt 9 1 v (fullT n M) w)
    (gx m : Nat) (hm : 0 < m) (hx : a.eval x = .slice (some ⟨gx, 0, none⟩) m m) (hcx : ∀ j, j < m → w.cell? ⟨gx, j, none⟩ = some (str M)) (hn : n + m ≤ 1000000)
    (h : ∀ v' w', RowAt 9 1 v' (fullT (n + m) M) w' → (∀ u p, RowAt 9 1 u (fullT p M) w → RowAt 9 1 u (fullT p M) w') → Fr v.ownBlock.toList w w' → (∀ g, v'.ownBlock = some g → v.ownBlock = some g ∨ g = w.heap.size) → wpList Tryz.prog ops Q rest (a.put o.dst v') w') : wpList Tryz.prog ops Q (o :: rest) a w := by
  have hsrc : SrcAt w (.slice (some ⟨gx, 0, none⟩) m m) (fullT m M) := by
    refine .inr ⟨⟨gx, 0, none⟩, m, by rw [fullT_len], fun j y hj => ?_⟩
    rw [fullT_flat] at hj
    have hjm : j < m := by have := (List.getElem?_eq_some_iff.1 hj).1; simpa using this
    rw [Addr.add_lit, Nat.zero_add, hcx j hjm]
    simpa [hjm] using hj
  have hlen : (fullT n M).length = n := fullT_len n M
  have hlm : (fullT m M).length = m := fullT_len m M
  rcases hR.1.2 with ⟨rfl, h0⟩ | ⟨g, cap, cur, hv, -, hb, hle, hmx, hsz, htk⟩
  · refine wpList_row Tryz.underlying26 infoStr rfl (by decide) hgd s x ho (.slice none 0 0) _ hs hR _ _ hx hsrc (fullT_one _ _) (fullT_cell _ _) (by unfold maxLen; omega) (by omega) ?_
    intro v' w' hR' hg hat
    rw [fullT_add] at hR'
    have hg' : w.grownBy w' none := hg
    refine h v' w' hR' (fun u p hu => hu.grown hg') (Fr.ofGrown hg') (fun k hk => ?_)
    rcases hat with hat | hat
    · exact .inl (hat ▸ hk)
    · rw [hat] at hk; cases hk; exact .inr rfl
  · rw [hlen] at hv hle
    subst hv
    by_cases hroom : n + m ≤ cap
    · obtain ⟨i, hi, hz0, hz1, hz2⟩ := info_parts infoStr
      have hnl : (List.replicate m (str M)).length = m * i.size := by rw [hz1]; simp
      have hnews : ∀ j u, (List.replicate m (str M))[j]? = some u → w.cell? ((⟨gx, 0, none⟩ : Addr).add j) = some u := fun j u hj => by
        have hjm : j < m := by have := (List.getElem?_eq_some_iff.1 hj).1; simpa using this
        rw [Addr.add_lit, Nat.zero_add, hcx j hjm]
        simpa [hjm] using hj
      have hthere : ∀ j, j < m → (w.cell? ⟨g, n + j, none⟩).isSome = true := fun j hj => by rw [cell_blk hb, Array.getElem?_eq_getElem (by omega)]; rfl
      have hr := run_append_room_cells (P := Tryz.prog) w 26 o.type 9 i Tryz.underlying26 hi g 0 n cap ⟨gx, 0, none⟩ m m (List.replicate m (str M)) hnl hnews (by intro u hu; rw [List.eq_of_mem_replicate hu]; rfl) hroom (fun j hj => by rw [hz1, Nat.mul_one, Nat.zero_add]; exact hthere j (by simpa using hj)) (fun j _ => frozen_blk hb _)
      rw [hz1, Nat.mul_one, Nat.zero_add] at hr
      refine wpList_plain hgd fun K hK => ?_
      unfold Oper.wp execOp
      simp only [ho, resolve, invoke, builtin, Sem.run_bind, Sem.run_pure, Result.andThen_ok, List.map_toArray, List.map_cons, List.map_nil, hs, hx, hr]
      obtain ⟨cur', hb', hsz'⟩ := setCells_blk g (List.replicate m (str M)) n w hb
      refine hK _ _ (h _ _ ⟨⟨by rw [fullT_flat, fullT_len]; simp, .inr ⟨g, cap, cur', by rw [fullT_len], Nat.zero_le _, hb', by rw [fullT_len]; exact hroom, hmx, by omega, ?_⟩⟩, fullT_one _ _⟩ (fun u p hu => full_sets g m n hu) ⟨World.os_setCells _ _ _ _, setCells_tape _ _ _ _, World.output_setCells _ _ _ _, by rw [setCells_size]; exact Nat.le_refl _, fun k hk hne => World.heap_setCells_other _ _ _ _ hk (fun q => hne (by simp [Value.ownBlock, q]))⟩ (fun k hk => .inl hk))
      rw [fullT_len, fullT_flat, Nat.mul_one]
      apply List.ext_getElem?
      intro j
      rw [List.getElem?_take]
      split
      · rename_i hj
        have hc1 : (w.setCells g n (List.replicate m (str M))).cell? ⟨g, j, none⟩ = some (str M) := by
          by_cases hjn : j < n
          · rw [World.cell?_setCells_out _ _ _ _ _ (fun _ _ => .inl hjn), cell_blk hb]
            have : (cur.toList.take ((fullT n M).length * 1))[j]? = some (str M) := by rw [htk, fullT_flat]; simp [hjn]
            rw [List.getElem?_take] at this
            split at this
            · rw [← Array.getElem?_toList]; exact this
            · cases this
          · have := World.cell?_setCells_in g (List.replicate m (str M)) n w (fun j hj => hthere j (by simpa using hj)) (j - n) (by simp; omega)
            rw [show n + (j - n) = j by omega] at this
            rw [this]; simp
        rw [cell_blk hb'] at hc1
        rw [Array.getElem?_toList, hc1]
        simp [hj]
      · rename_i hj
        rw [List.getElem?_eq_none (by simp; omega)]
    · refine wpList_full Tryz.underlying26 infoStr rfl hgd s x ho g n cap (fullT n M) hs hR ⟨gx, 0, none⟩ m m (fullT m M) hx hlm ?_ (fullT_one _ _) (by omega) (by unfold maxLen; omega) (by omega) ?_
      · intro j y hj
        rcases hsrc with ⟨q, -⟩ | ⟨ad, c, q, hq⟩
        · cases q
        · simp only [Value.slice.injEq, Option.some.injEq] at q
          obtain ⟨rfl, -, -⟩ := q
          exact hq j y hj
      · intro c' w' hR' hg hsz'
        rw [fullT_add] at hR'
        refine h _ w' hR' (fun u p hu => hu.grown hg) (Fr.ofGrown hg) (fun k hk => ?_)
        cases hk
        exact .inr rfl

theorem strRow_at (l : List (List UInt8)) {i : Nat} {b : List UInt8} (h : l[i]? = some b) : (strRow l)[i]? = some [str b] := by simp [strRow, h]

set_option maxRecDepth 100000 in
set_option maxHeartbeats 1000000 in
theorem same_texts (l : List (List UInt8)) (hl : l.length ≤ 100000) (v u : Value) (w : World) (hv : RowAt 9 1 v (strRow l) w) (hu : RowAt 9 1 u (strRow l) w) :
    Calls Tryz.prog 38 #[v, u] w fun e w' => e = .returned (.bool true) ∧ w.grownBy w' none := by
  obtain ⟨av, cv, rfl, hcv⟩ := hv.value
  obtain ⟨au, cu, rfl, hcu⟩ := hu.value
  rw [strRow_len] at hv hu hcv hcu ⊢
  have hne : ((l.length : Int) != (l.length : Int)) = false := by simp
  go_enter Tryz.func38, Tryz.ntmps38
  go_wp2_with fail
  go_loopg [5] l.length (fun g s5 wr => ∃ (i : Nat), s5 = .int .i64 i ∧ i ≤ l.length ∧ g = l.length - i ∧ w.grownBy wr none)
  case atStart => exact ⟨0, rfl, by omega, rfl, grown_refl _⟩
  case round =>
    obtain ⟨i, rfl, hi, hgk, hG⟩ := hrel
    by_cases hlt : i < l.length
    · have hli : (i : Int) < (l.length : Int) := by omega
      obtain ⟨b, hb⟩ : ∃ b, l[i]? = some b := ⟨l[i], by simp [hlt]⟩
      obtain ⟨g1, c1, cur1, hv1, -, hb1, hx1⟩ := (hv.grown hG).cell (i := i) (strRow_at l hb)
      obtain ⟨g2, c2, cur2, hv2, -, hb2, hx2⟩ := (hu.grown hG).cell (i := i) (strRow_at l hb)
      rw [strRow_len] at hv1 hv2
      cases hv1
      cases hv2
      have k1 : wr.cell? ⟨g1, i, none⟩ = some (str b) := (cell_blk hb1 _).trans (by simpa using hx1 0 _ rfl)
      have k2 : wr.cell? ⟨g2, i, none⟩ = some (str b) := (cell_blk hb2 _).trans (by simpa using hx2 0 _ rfl)
      clear hx1 hx2 hb
      go_wp2_with fail
      go_quiet (fail)
      go_wp2_with fail
      go_roundg (l.length - (i + 1))
      case measure => omega
      case rel => exact ⟨i + 1, by go_num, by omega, rfl, grown_trans hG (grown_drewN _ _)⟩
    · go_wp2_with fail
      go_ret
      exact ⟨rfl, hG⟩

set_option maxRecDepth 100000 in
set_option maxHeartbeats 1000000 in
theorem full_texts (n : Nat) (h8 : n ≤ 100000) (m : List UInt8) (v : Value) (w : World) (hv : RowAt 9 1 v (fullT n m) w) :
    Calls Tryz.prog 53 #[v, str m] w fun e w' => e = .returned (.bool true) ∧ w' = w := by
  obtain ⟨av, cv, rfl, hcv⟩ := hv.value
  rw [fullT_len] at hv hcv ⊢
  go_enter Tryz.func53, Tryz.ntmps53
  go_wp2_with fail
  go_loopg [5] n (fun g s5 wr => ∃ (i : Nat), s5 = .int .i64 i ∧ i ≤ n ∧ g = n - i ∧ wr = w)
  case atStart => exact ⟨0, rfl, by omega, rfl, rfl⟩
  case round =>
    obtain ⟨i, rfl, hi, hgk, hw⟩ := hrel
    rw [hw]
    clear hw wr
    by_cases hlt : i < n
    · have hli : (i : Int) < (n : Int) := by omega
      obtain ⟨g1, c1, cur1, hv1, -, hb1, hx1⟩ := hv.cell (i := i) (fullT_at hlt)
      rw [fullT_len] at hv1
      cases hv1
      have k1 : w.cell? ⟨g1, i, none⟩ = some (str m) := (cell_blk hb1 _).trans (by simpa using hx1 0 _ rfl)
      clear hx1
      go_wp2_with fail
      go_roundg (n - (i + 1))
      case measure => omega
      case rel => exact ⟨i + 1, by go_num, by omega, rfl, rfl⟩
    · go_wp2_with fail
      go_ret
      exact ⟨rfl, rfl⟩

end Go.Proofs.YtachmkhbbbmioaaGreat
