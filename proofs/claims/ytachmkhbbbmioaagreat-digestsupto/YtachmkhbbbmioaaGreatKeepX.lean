import Derived.Test.YtachmkhbbbmioaaGreatBadX
import Derived.Deep.RegionLaw
import Derived.Deep.AppendLies
namespace Go.Proofs.YtachmkhbbbmioaaGreat
open Go.RowKit Go.Shelf

/-- A list that came out, and those made of it: all full of the owner's mark. -/
structure IR where
  l : Value
  a : Value
  b : Value
  c : Value
  n : Nat
  m : Int

def irCells (r : IR) : List Value := [r.l, r.a, r.b, r.c, .int .i64 r.m]
def IR.own (r : IR) : List Nat := r.l.ownBlock.toList ++ (r.a.ownBlock.toList ++ (r.b.ownBlock.toList ++ r.c.ownBlock.toList))

structure IntsAt (r : IR) (w : World) : Prop where
  l : RowAt 3 1 r.l (fullRow r.n r.m) w
  a : RowAt 3 1 r.a (fullRow (r.n + 1) r.m) w
  b : RowAt 3 1 r.b (fullRow (r.n + 2) r.m) w
  c : RowAt 3 1 r.c (fullRow (r.n + 3) r.m) w
  n8 : r.n ≤ 8

theorem IntsAt.kept {r : IR} {w w' : World} (h : IntsAt r w) (e : ∀ k ∈ r.own, w'.heap[k]? = w.heap[k]?) : IntsAt r w' :=
  ⟨h.l.kept (fun g hg => e g (by simp [IR.own, hg])), h.a.kept (fun g hg => e g (by simp [IR.own, hg])), h.b.kept (fun g hg => e g (by simp [IR.own, hg])), h.c.kept (fun g hg => e g (by simp [IR.own, hg])), h.n8⟩

theorem IntsAt.lt {r : IR} {w : World} (h : IntsAt r w) : ∀ k ∈ r.own, k < w.heap.size := by
  intro k hk
  simp only [IR.own, List.mem_append, Option.mem_toList] at hk
  rcases hk with hk | hk | hk | hk
  · exact h.l.lt hk
  · exact h.a.lt hk
  · exact h.b.lt hk
  · exact h.c.lt hk

theorem infoIR : (Tryz.prog.info? 95).map (fun i => (i.zero, i.size, i.bytes)) = some (some (.agg #[.slice none 0 0, .slice none 0 0, .slice none 0 0, .slice none 0 0, .int .i64 0]), 5, 104) := by kernel_rfl

theorem full_step (n i : Nat) (M : Int) (xs : List (List Value)) (x : List Value) (hi : xs[i]? = some x) (hx : x.length = 1) (_hn : i < n) : (fullRow i M ++ xs.drop i).set i (x.set 0 (.int .i64 M)) = fullRow (i + 1) M ++ xs.drop (i + 1) := by
  have hlt := (List.getElem?_eq_some_iff.1 hi).1
  have hd : xs.drop i = x :: xs.drop (i + 1) := by
    rw [List.drop_eq_getElem_cons hlt]
    congr 1
    exact (List.getElem?_eq_some_iff.1 hi).2
  rw [hd, List.set_append_right _ _ (by simp [fullRow]), fullRow_len, Nat.sub_self, List.set_cons_zero]
  obtain ⟨y, rfl⟩ : ∃ y, x = [y] := List.length_eq_one_iff.1 hx
  show fullRow i M ++ [.int .i64 M] :: xs.drop (i + 1) = _
  unfold fullRow
  rw [List.replicate_succ', List.append_assoc]
  rfl

theorem full_add (n k : Nat) (M : Int) : fullRow n M ++ List.replicate k [.int .i64 M] = fullRow (n + k) M := by
  unfold fullRow; rw [List.replicate_append_replicate]

theorem flat_rep (n : Nat) (x : Value) : (List.replicate n [x]).flatten = List.replicate n x := by
  induction n with
  | zero => rfl
  | succ n ih => rw [List.replicate_succ, List.flatten_cons, ih, List.replicate_succ]; rfl

theorem src_rep (w : World) (k : Nat) (M : Int) (e : TypeId) : ∀ (j : Nat) (y : Value), (List.replicate k [Value.int .i64 M]).flatten[j]? = some y → (w.alloc (.cells (List.replicate k (Value.int .i64 M)).toArray e)).cell? ((⟨w.heap.size, 0, none⟩ : Addr).add j) = some y := by
  intro j y hj
  have hk : (w.alloc (.cells (List.replicate k (Value.int .i64 M)).toArray e)).heap[w.heap.size]? = some (.cells (List.replicate k (Value.int .i64 M)).toArray e) := by rw [heap_alloc_at]; simp
  rw [at_add, Nat.zero_add, cell_blk hk j, List.getElem?_toArray]
  rw [flat_rep] at hj
  exact hj

theorem rep_len (k : Nat) (M : Int) : ∀ y ∈ List.replicate k [Value.int .i64 M], y.length = 1 := by
  intro y hy
  rw [List.eq_of_mem_replicate hy]; rfl

set_option maxRecDepth 100000 in
set_option maxHeartbeats 4000000 in
theorem keep_ints (wb g n : Nat) (a0 a1 a3 vi : Value) (irs : List IR) (xs : List (List Value)) (w : World) (hw : w.heap[wb]? = some (.cells #[a0, a1, vi, a3] 33)) (hi : RowAt 95 5 vi (irs.map irCells) w)
    (hl : RowAt 3 1 (.slice (some ⟨g, 0, none⟩) n n) xs w) (hxn : xs.length = n) (hn8 : n ≤ 8) (hlen : irs.length ≤ 2000000) :
    Calls Tryz.prog 48 #[.pointer (some ⟨wb, 0, none⟩), .slice (some ⟨g, 0, none⟩) n n] w fun e w' => e = .returned (.tuple #[]) ∧ ∃ r vi', IntsAt r w' ∧ w'.heap[wb]? = some (.cells #[a0, a1, vi', a3] 33) ∧
      RowAt 95 5 vi' ((irs ++ [r]).map irCells) w' ∧ Fr (wb :: g :: vi.ownBlock.toList) w w' ∧ (∀ k ∈ r.own, k = g ∨ w.heap.size ≤ k) ∧ (∀ k, vi'.ownBlock = some k → vi.ownBlock = some k ∨ w.heap.size ≤ k) := by
  obtain ⟨ai, ci, hvi, hci⟩ := hi.value
  rw [List.length_map] at hvi hci
  have c2 : w.cell? ⟨wb, 2, none⟩ = some vi := cell_blk hw 2
  rw [hvi] at c2
  have hgw : g ≠ wb := fun q => hl.neBlk hw (by decide) (q ▸ rfl)
  have hgv : vi.ownBlock ≠ some g := fun q => hl.ne hi (by decide) rfl q
  have hglt : g < w.heap.size := hl.lt rfl
  have hwlt : wb < w.heap.size := lt_of_heap hw
  obtain ⟨M, hM⟩ : ∃ M : Int, 1000 + (irs.length : Int) = M := ⟨_, rfl⟩
  have hMw : IntKind.i64.wrap (1000 + (irs.length : Int)) = M := by rw [IntKind.wrap_i64]; omega
  go_enter Tryz.func48, Tryz.ntmps48
  go_wp2_with fail
  clear c2 hMw
  have hM1 := hide hM
  clear hM
  go_loopg [5] n (fun gk s5 wr => ∃ (i : Nat), s5 = .int .i64 i ∧ i ≤ n ∧ gk = n - i ∧ RowAt 3 1 (.slice (some ⟨g, 0, none⟩) n n) (fullRow i M ++ xs.drop i) wr ∧ Fr [g] w wr)
  case atStart => exact ⟨0, rfl, by omega, rfl, by simpa [fullRow] using hl, Fr.refl _ _⟩
  case round =>
    obtain ⟨i, rfl, hin, hgk, hR, hF⟩ := hrel
    by_cases hlt : i < n
    · have hli : (i : Int) < (n : Int) := by omega
      have hx : xs[i]? = some xs[i] := by simp [hxn, hlt]
      have hx1 : (xs[i]).length = 1 := hl.2 _ (List.getElem_mem _)
      generalize xs[i] = x at hx hx1
      have hxi : (fullRow i M ++ xs.drop i)[i]? = some x := by
        rw [List.getElem?_append_right (by simp [fullRow]), fullRow_len, Nat.sub_self, List.getElem?_drop]; simpa using hx
      have hset := hR.set (i := i) (j := 0) (y := .int .i64 M) hxi (by omega)
      rw [full_step n i M xs x hx hx1 hlt, Nat.mul_one, Nat.add_zero] at hset
      obtain ⟨y, rfl⟩ : ∃ y, x = [y] := List.length_eq_one_iff.1 hx1
      obtain ⟨g', c', cur, hv', -, hb, hcell⟩ := hR.cell hxi
      have hlR : (fullRow i M ++ xs.drop i).length = n := by simp [fullRow]; omega
      rw [hlR] at hv'
      cases hv'
      have d1 : wr.cell? ⟨g, i, none⟩ = some y := (cell_blk hb _).trans (by simpa using hcell 0 _ rfl)
      have f1 : wr.frozen? ⟨g, i, none⟩ = false := frozen_blk hb _
      have hF' := hF.setCell (p := ⟨g, i, none⟩) (.inl (by simp)) (.int .i64 M)
      clear hR hxi hcell hx hx1
      go_wp2_with fail
      go_roundg (n - (i + 1))
      case measure => omega
      case rel => exact ⟨i + 1, by go_num, by omega, rfl, hset, hF'⟩
    · obtain rfl : i = n := by omega
      have hR1 : RowAt 3 1 (.slice (some ⟨g, 0, none⟩) i i) (fullRow i M) wr := by
        have := hR
        rw [List.drop_of_length_le (by omega), List.append_nil] at this
        exact this
      have hws : wr.heap[wb]? = some (.cells #[a0, a1, vi, a3] 33) := hF.blk hw (by simpa using Ne.symm hgw)
      have hi1 : RowAt 95 5 vi (irs.map irCells) wr := hi.kept (fun k hk => hF.block k (hi.lt hk) (by simp; exact fun q => hgv (q ▸ hk)))
      have hs1 : w.heap.size ≤ wr.heap.size := hF.size
      clear hR
      go_upto_region 6 with fail
      have g2 : wr.grownBy (wr.alloc (.cells #[.slice (some ⟨g, 0, none⟩) i i, .slice none 0 0, .slice none 0 0, .slice none 0 0, .int .i64 M] 95)) none := grown_alloc (grown_refl _) _
      have kx : (wr.alloc (.cells #[.slice (some ⟨g, 0, none⟩) i i, .slice none 0 0, .slice none 0 0, .slice none 0 0, .int .i64 M] 95)).heap[wr.heap.size]? = some (.cells #[.slice (some ⟨g, 0, none⟩) i i, .slice none 0 0, .slice none 0 0, .slice none 0 0, .int .i64 M] 95) := by rw [heap_alloc_at]; simp
      have hl2 := hR1.grown g2
      have hi2 := hi1.grown g2
      have hw2 := (g2.block _ (lt_of_heap hws) (by simp)).trans hws
      have hF2 := hF.grown g2 (by simp)
      have hvx : vi.ownBlock ≠ some wr.heap.size := fun q => by have := hi1.lt q; omega
      have hwx : wb ≠ wr.heap.size := by omega
      have hgx : g ≠ wr.heap.size := by omega
      generalize (wr.alloc (.cells #[.slice (some ⟨g, 0, none⟩) i i, .slice none 0 0, .slice none 0 0, .slice none 0 0, .int .i64 M] 95)) = w2 at kx hl2 hi2 hw2 hF2 ⊢
      clear hl hR1 hi1 hws g2 hF
      generalize wr.heap.size = bx at kx hs1 hvx hwx hgx ⊢
      have gA1 : w2.grownBy (w2.alloc (.cells #[.int .i64 M] 3)) none := grown_alloc (grown_refl _) _
      have hlA1 := hl2.grown gA1
      have kA1 := (gA1.block _ (lt_of_heap kx) (by simp)).trans kx
      have hbx1 : bx < w2.heap.size := lt_of_heap kx
      go_upto_region 7 with (at_builtin; refine wpList_full Tryz.underlying40 infoInts rfl rfl _ _ rfl g i i (fullRow i M) rfl hlA1 ⟨w2.heap.size, 0, none⟩ 1 1 (List.replicate 1 [.int .i64 M]) rfl (by simp) (src_rep w2 1 M 3) (rep_len 1 M) (by omega) (by unfold maxLen; omega) (by omega) ?_; intro c1 u1 hRk hgk hsz; have dk : u1.cell? ⟨bx, 1, none⟩ = some (.slice none 0 0) := cell_blk ((hgk.block _ (lt_of_heap kA1) (by simp)).trans kA1) 1; have fk : u1.frozen? ⟨bx, 1, none⟩ = false := frozen_blk ((hgk.block _ (lt_of_heap kA1) (by simp)).trans kA1) 1)
      have hb1 : w2.heap.size + 1 = (w2.alloc (.cells #[.int .i64 M] 3)).heap.size := by simp
      have E1 : ∀ q, q < w2.heap.size → q ≠ bx → (u1.setCell ⟨bx, 1, none⟩ (.slice (some ⟨w2.heap.size + 1, 0, none⟩) (i + 1) c1)).heap[q]? = w2.heap[q]? := fun q hq hn => by
        rw [Below.heap_setCell _ _ _ _ hn, hgk.block q (by rw [← hb1]; omega) (by simp)]
        exact Below.heap_alloc _ _ _ hq
      rw [← hb1] at hRk
      have kx1 : (u1.setCell ⟨bx, 1, none⟩ (.slice (some ⟨w2.heap.size + 1, 0, none⟩) (i + 1) c1)).heap[bx]? = some (.cells #[(.slice (some ⟨g, 0, none⟩) i i), .slice (some ⟨w2.heap.size + 1, 0, none⟩) (i + 1) c1, (.slice none 0 0), (.slice none 0 0), (.int .i64 M)] 95) := by
        rw [set_blk ((hgk.block _ (lt_of_heap kA1) (by simp)).trans kA1)]; rfl
      have hv1 : RowAt 3 1 (.slice (some ⟨w2.heap.size + 1, 0, none⟩) (i + 1) c1) (fullRow (i + 1) M) (u1.setCell ⟨bx, 1, none⟩ (.slice (some ⟨w2.heap.size + 1, 0, none⟩) (i + 1) c1)) := by
        rw [← full_add]
        exact hRk.kept (fun q hq => Below.heap_setCell _ _ _ _ (by cases hq; simp; omega))
      have hl3 := hl2.kept (w' := u1.setCell ⟨bx, 1, none⟩ (.slice (some ⟨w2.heap.size + 1, 0, none⟩) (i + 1) c1)) (fun q hq => E1 q (hl2.lt hq) (by cases hq; exact hgx))
      have hi3 := hi2.kept (w' := u1.setCell ⟨bx, 1, none⟩ (.slice (some ⟨w2.heap.size + 1, 0, none⟩) (i + 1) c1)) (fun q hq => E1 q (hi2.lt hq) (fun e => hvx (e ▸ hq)))
      have hw3 := (E1 wb (lt_of_heap hw2) hwx).trans hw2
      have hF3 := ((hF2.grown gA1 (by simp)).grown hgk (by simp)).setCell (p := ⟨bx, 1, none⟩) (.inr (by simpa using hs1)) (.slice (some ⟨w2.heap.size + 1, 0, none⟩) (i + 1) c1)
      have hsb1 : w.heap.size ≤ w2.heap.size + 1 := by have := hF2.size; omega
      generalize (u1.setCell ⟨bx, 1, none⟩ (.slice (some ⟨w2.heap.size + 1, 0, none⟩) (i + 1) c1)) = w3 at kx1 hv1 hl3 hi3 hw3 hF3  ⊢
      clear E1 hRk hgk dk fk hlA1 gA1 kA1 kx hl2 hi2 hw2 hF2 hb1 hbx1 hsz 
      generalize w2.heap.size + 1 = b1 at kx1 hv1 hsb1 hF3 ⊢
      rename w3.heap[bx]? = _ => kx
      have gA2 : w3.grownBy (w3.alloc (.cells #[.int .i64 M, .int .i64 M] 3)) none := grown_alloc (grown_refl _) _
      have hlA2 := hl3.grown gA2
      have kA2 := (gA2.block _ (lt_of_heap kx) (by simp)).trans kx
      have hbx2 : bx < w3.heap.size := lt_of_heap kx
      go_upto_region 8 with (at_builtin; refine wpList_full Tryz.underlying40 infoInts rfl rfl _ _ rfl g i i (fullRow i M) rfl hlA2 ⟨w3.heap.size, 0, none⟩ 2 2 (List.replicate 2 [.int .i64 M]) rfl (by simp) (src_rep w3 2 M 3) (rep_len 2 M) (by omega) (by unfold maxLen; omega) (by omega) ?_; intro c2 u2 hRk hgk hsz; have dk : u2.cell? ⟨bx, 2, none⟩ = some (.slice none 0 0) := cell_blk ((hgk.block _ (lt_of_heap kA2) (by simp)).trans kA2) 2; have fk : u2.frozen? ⟨bx, 2, none⟩ = false := frozen_blk ((hgk.block _ (lt_of_heap kA2) (by simp)).trans kA2) 2)
      have hb2 : w3.heap.size + 1 = (w3.alloc (.cells #[.int .i64 M, .int .i64 M] 3)).heap.size := by simp
      have E2 : ∀ q, q < w3.heap.size → q ≠ bx → (u2.setCell ⟨bx, 2, none⟩ (.slice (some ⟨w3.heap.size + 1, 0, none⟩) (i + 2) c2)).heap[q]? = w3.heap[q]? := fun q hq hn => by
        rw [Below.heap_setCell _ _ _ _ hn, hgk.block q (by rw [← hb2]; omega) (by simp)]
        exact Below.heap_alloc _ _ _ hq
      rw [← hb2] at hRk
      have kx2 : (u2.setCell ⟨bx, 2, none⟩ (.slice (some ⟨w3.heap.size + 1, 0, none⟩) (i + 2) c2)).heap[bx]? = some (.cells #[(.slice (some ⟨g, 0, none⟩) i i), (.slice (some ⟨b1, 0, none⟩) (i + 1) c1), .slice (some ⟨w3.heap.size + 1, 0, none⟩) (i + 2) c2, (.slice none 0 0), (.int .i64 M)] 95) := by
        rw [set_blk ((hgk.block _ (lt_of_heap kA2) (by simp)).trans kA2)]; rfl
      have hv2 : RowAt 3 1 (.slice (some ⟨w3.heap.size + 1, 0, none⟩) (i + 2) c2) (fullRow (i + 2) M) (u2.setCell ⟨bx, 2, none⟩ (.slice (some ⟨w3.heap.size + 1, 0, none⟩) (i + 2) c2)) := by
        rw [← full_add]
        exact hRk.kept (fun q hq => Below.heap_setCell _ _ _ _ (by cases hq; simp; omega))
      have hl4 := hl3.kept (w' := u2.setCell ⟨bx, 2, none⟩ (.slice (some ⟨w3.heap.size + 1, 0, none⟩) (i + 2) c2)) (fun q hq => E2 q (hl3.lt hq) (by cases hq; exact hgx))
      have hi4 := hi3.kept (w' := u2.setCell ⟨bx, 2, none⟩ (.slice (some ⟨w3.heap.size + 1, 0, none⟩) (i + 2) c2)) (fun q hq => E2 q (hi3.lt hq) (fun e => hvx (e ▸ hq)))
      have hw4 := (E2 wb (lt_of_heap hw3) hwx).trans hw3
      have hF4 := ((hF3.grown gA2 (by simp)).grown hgk (by simp)).setCell (p := ⟨bx, 2, none⟩) (.inr (by simpa using hs1)) (.slice (some ⟨w3.heap.size + 1, 0, none⟩) (i + 2) c2)
      have hv1' := hv1.kept (w' := u2.setCell ⟨bx, 2, none⟩ (.slice (some ⟨w3.heap.size + 1, 0, none⟩) (i + 2) c2)) (fun q hq => E2 q (hv1.lt hq) (fun e => hv1.neBlk kx (by decide) (e ▸ hq)))
      have hsb2 : w.heap.size ≤ w3.heap.size + 1 := by have := hF3.size; omega
      generalize (u2.setCell ⟨bx, 2, none⟩ (.slice (some ⟨w3.heap.size + 1, 0, none⟩) (i + 2) c2)) = w4 at kx2 hv2 hl4 hi4 hw4 hF4 hv1' ⊢
      clear E2 hRk hgk dk fk hlA2 gA2 kA2 kx hl3 hi3 hw3 hF3 hb2 hbx2 hsz hv1
      rename RowAt 3 1 (.slice (some ⟨b1, 0, none⟩) (i + 1) c1) (fullRow (i + 1) M) w4 => hv1
      generalize w3.heap.size + 1 = b2 at kx2 hv2 hsb2 hF4 ⊢
      rename w4.heap[bx]? = _ => kx
      have gA3 : w4.grownBy (w4.alloc (.cells #[.int .i64 M, .int .i64 M, .int .i64 M] 3)) none := grown_alloc (grown_refl _) _
      have hlA3 := hl4.grown gA3
      have kA3 := (gA3.block _ (lt_of_heap kx) (by simp)).trans kx
      have hbx3 : bx < w4.heap.size := lt_of_heap kx
      go_upto_region 9 with (at_builtin; refine wpList_full Tryz.underlying40 infoInts rfl rfl _ _ rfl g i i (fullRow i M) rfl hlA3 ⟨w4.heap.size, 0, none⟩ 3 3 (List.replicate 3 [.int .i64 M]) rfl (by simp) (src_rep w4 3 M 3) (rep_len 3 M) (by omega) (by unfold maxLen; omega) (by omega) ?_; intro c3 u3 hRk hgk hsz; have dk : u3.cell? ⟨bx, 3, none⟩ = some (.slice none 0 0) := cell_blk ((hgk.block _ (lt_of_heap kA3) (by simp)).trans kA3) 3; have fk : u3.frozen? ⟨bx, 3, none⟩ = false := frozen_blk ((hgk.block _ (lt_of_heap kA3) (by simp)).trans kA3) 3)
      have hb3 : w4.heap.size + 1 = (w4.alloc (.cells #[.int .i64 M, .int .i64 M, .int .i64 M] 3)).heap.size := by simp
      have E3 : ∀ q, q < w4.heap.size → q ≠ bx → (u3.setCell ⟨bx, 3, none⟩ (.slice (some ⟨w4.heap.size + 1, 0, none⟩) (i + 3) c3)).heap[q]? = w4.heap[q]? := fun q hq hn => by
        rw [Below.heap_setCell _ _ _ _ hn, hgk.block q (by rw [← hb3]; omega) (by simp)]
        exact Below.heap_alloc _ _ _ hq
      rw [← hb3] at hRk
      have kx3 : (u3.setCell ⟨bx, 3, none⟩ (.slice (some ⟨w4.heap.size + 1, 0, none⟩) (i + 3) c3)).heap[bx]? = some (.cells #[(.slice (some ⟨g, 0, none⟩) i i), (.slice (some ⟨b1, 0, none⟩) (i + 1) c1), (.slice (some ⟨b2, 0, none⟩) (i + 2) c2), .slice (some ⟨w4.heap.size + 1, 0, none⟩) (i + 3) c3, (.int .i64 M)] 95) := by
        rw [set_blk ((hgk.block _ (lt_of_heap kA3) (by simp)).trans kA3)]; rfl
      have hv3 : RowAt 3 1 (.slice (some ⟨w4.heap.size + 1, 0, none⟩) (i + 3) c3) (fullRow (i + 3) M) (u3.setCell ⟨bx, 3, none⟩ (.slice (some ⟨w4.heap.size + 1, 0, none⟩) (i + 3) c3)) := by
        rw [← full_add]
        exact hRk.kept (fun q hq => Below.heap_setCell _ _ _ _ (by cases hq; simp; omega))
      have hl5 := hl4.kept (w' := u3.setCell ⟨bx, 3, none⟩ (.slice (some ⟨w4.heap.size + 1, 0, none⟩) (i + 3) c3)) (fun q hq => E3 q (hl4.lt hq) (by cases hq; exact hgx))
      have hi5 := hi4.kept (w' := u3.setCell ⟨bx, 3, none⟩ (.slice (some ⟨w4.heap.size + 1, 0, none⟩) (i + 3) c3)) (fun q hq => E3 q (hi4.lt hq) (fun e => hvx (e ▸ hq)))
      have hw5 := (E3 wb (lt_of_heap hw4) hwx).trans hw4
      have hF5 := ((hF4.grown gA3 (by simp)).grown hgk (by simp)).setCell (p := ⟨bx, 3, none⟩) (.inr (by simpa using hs1)) (.slice (some ⟨w4.heap.size + 1, 0, none⟩) (i + 3) c3)
      have hv1' := hv1.kept (w' := u3.setCell ⟨bx, 3, none⟩ (.slice (some ⟨w4.heap.size + 1, 0, none⟩) (i + 3) c3)) (fun q hq => E3 q (hv1.lt hq) (fun e => hv1.neBlk kx (by decide) (e ▸ hq)))
      have hv2' := hv2.kept (w' := u3.setCell ⟨bx, 3, none⟩ (.slice (some ⟨w4.heap.size + 1, 0, none⟩) (i + 3) c3)) (fun q hq => E3 q (hv2.lt hq) (fun e => hv2.neBlk kx (by decide) (e ▸ hq)))
      have hsb3 : w.heap.size ≤ w4.heap.size + 1 := by have := hF4.size; omega
      generalize (u3.setCell ⟨bx, 3, none⟩ (.slice (some ⟨w4.heap.size + 1, 0, none⟩) (i + 3) c3)) = w5 at kx3 hv3 hl5 hi5 hw5 hF5 hv1' hv2' ⊢
      clear E3 hRk hgk dk fk hlA3 gA3 kA3 kx hl4 hi4 hw4 hF4 hb3 hbx3 hsz hv1 hv2
      rename RowAt 3 1 (.slice (some ⟨b1, 0, none⟩) (i + 1) c1) (fullRow (i + 1) M) w5 => hv1
      rename RowAt 3 1 (.slice (some ⟨b2, 0, none⟩) (i + 2) c2) (fullRow (i + 2) M) w5 => hv2
      generalize w4.heap.size + 1 = b3 at kx3 hv3 hsb3 hF5 ⊢
      rename w5.heap[bx]? = _ => kx
      obtain ⟨i0, hi0, hz0, hz1, hz2⟩ := info_parts infoIR
      have y0 : w5.cell? ⟨wb, 2, none⟩ = some vi := cell_blk hw5 2
      have d0 : w5.cell? ⟨bx, 0, none⟩ = some (.slice (some ⟨g, 0, none⟩) i i) := cell_blk kx 0
      have d1 : w5.cell? ⟨bx, 1, none⟩ = some (.slice (some ⟨b1, 0, none⟩) (i + 1) c1) := cell_blk kx 1
      have d2 : w5.cell? ⟨bx, 2, none⟩ = some (.slice (some ⟨b2, 0, none⟩) (i + 2) c2) := cell_blk kx 2
      have d3 : w5.cell? ⟨bx, 3, none⟩ = some (.slice (some ⟨b3, 0, none⟩) (i + 3) c3) := cell_blk kx 3
      have d4 : w5.cell? ⟨bx, 4, none⟩ = some (.int .i64 M) := cell_blk kx 4
      have nwv : vi.ownBlock ≠ some wb := hi5.neBlk hw5 (by decide)
      have hwb5 : wb < w5.heap.size := lt_of_heap hw5
      have hs5 : w.heap.size ≤ w5.heap.size := hF5.size
      have hil : (irs.map irCells).length = irs.length := by simp
      have hown5 := hi5.1
      rw [hil] at hown5
      clear hvi
      go_region_law ((refine step_append_lies _ (by rfl) _ _ _ (by rfl) 0 95 i0 _ 5 104 Tryz.underlying30 hi0 hz0 hz1 hz2 rfl (by omega) vi irs.length (irs.map irCells).flatten (by rfl) ((hown5.alloc _).drew) ⟨w5.heap.size, 0, none⟩ 1 1 [.slice (some ⟨g, 0, none⟩) i i, .slice (some ⟨b1, 0, none⟩) (i + 1) c1, .slice (some ⟨b2, 0, none⟩) (i + 2) c2, .slice (some ⟨b3, 0, none⟩) (i + 3) c3, .int .i64 M] (by rfl) (by rfl) (World.news_of_block (cs := #[.slice (some ⟨g, 0, none⟩) i i, .slice (some ⟨b1, 0, none⟩) (i + 1) c1, .slice (some ⟨b2, 0, none⟩) (i + 2) c2, .slice (some ⟨b3, 0, none⟩) (i + 3) c3, .int .i64 M]) (t := 95) (fr := (0, 0)) (heap_alloc_new w5 _)) (by simp [Value.oneCell']) (by omega) (by unfold maxLen; omega) (by omega) (by simp) (w5.heap.size + 1) (by simp) ?_; intro gg capL w6 hown1 hgrow hat hlt6; have y5 : w6.heap[wb]? = w5.heap[wb]? := (hgrow.block wb (by simp; omega) (Ne.symm nwv)).trans (Below.heap_alloc _ _ _ hwb5); have y4 : w6.cell? ⟨wb, 2, none⟩ = some vi := (World.cell?_of_block (a := ⟨wb, 2, none⟩) y5).trans y0; have f4 : w6.frozen? ⟨wb, 2, none⟩ = false := (World.frozen?_of_block (a := ⟨wb, 2, none⟩) y5).trans (frozen_blk hw5 2)))
      all_goals go_end0
      all_goals
        have hgr : w5.grownBy w6 vi.ownBlock := grown_pre hgrow
        have ngw : gg ≠ wb := fun q => by
          rcases hat with hat | hat
          · exact nwv (q ▸ hat)
          · omega
        have E6 : ∀ q, q < w5.heap.size → vi.ownBlock ≠ some q → q ≠ wb → (w6.setCell ⟨wb, 2, none⟩ (.slice (some ⟨gg, 0, none⟩) (irs.length + 1) capL)).heap[q]? = w5.heap[q]? := fun q hq h1 h2 => (Below.heap_setCell _ _ _ _ h2).trans (hgr.block q hq (Ne.symm h1))
        have hrow : RowAt 95 5 (.slice (some ⟨gg, 0, none⟩) (irs.length + 1) capL) ((irs ++ [(⟨.slice (some ⟨g, 0, none⟩) i i, .slice (some ⟨b1, 0, none⟩) (i + 1) c1, .slice (some ⟨b2, 0, none⟩) (i + 2) c2, .slice (some ⟨b3, 0, none⟩) (i + 3) c3, i, M⟩ : IR)]).map irCells) w6 := by
          refine ⟨by simpa [irCells] using hown1, ?_⟩
          intro y hy
          obtain ⟨r, -, rfl⟩ := List.mem_map.1 hy
          rfl
        refine ⟨rfl, ⟨.slice (some ⟨g, 0, none⟩) i i, .slice (some ⟨b1, 0, none⟩) (i + 1) c1, .slice (some ⟨b2, 0, none⟩) (i + 2) c2, .slice (some ⟨b3, 0, none⟩) (i + 3) c3, i, M⟩, .slice (some ⟨gg, 0, none⟩) (irs.length + 1) capL, ⟨?_, ?_, ?_, ?_, hn8⟩, ?_, ?_, ?_, ?_, ?_⟩
        · exact hl5.kept (fun q hq => E6 q (hl5.lt hq) (hl5.ne hi5 (by decide) hq) (fun e => hl5.neBlk hw5 (by decide) (e ▸ hq)))
        · exact hv1.kept (fun q hq => E6 q (hv1.lt hq) (hv1.ne hi5 (by decide) hq) (fun e => hv1.neBlk hw5 (by decide) (e ▸ hq)))
        · exact hv2.kept (fun q hq => E6 q (hv2.lt hq) (hv2.ne hi5 (by decide) hq) (fun e => hv2.neBlk hw5 (by decide) (e ▸ hq)))
        · exact hv3.kept (fun q hq => E6 q (hv3.lt hq) (hv3.ne hi5 (by decide) hq) (fun e => hv3.neBlk hw5 (by decide) (e ▸ hq)))
        · exact (set_blk (y5.trans hw5)).trans rfl
        · exact hrow.kept (fun q hq => Below.heap_setCell _ _ _ _ (by cases hq; exact ngw))
        · exact ((hF5.mono (cs := wb :: g :: vi.ownBlock.toList) (by simp)).grown hgr (fun k hk => .inl (by simp [hk]))).setCell (p := ⟨wb, 2, none⟩) (.inl (by simp)) _
        · intro k hk
          simp only [IR.own, Value.ownBlock, Option.toList_some, List.cons_append, List.nil_append, List.mem_cons, List.not_mem_nil, or_false] at hk
          omega
        · intro k hk
          simp only [Value.ownBlock, Option.some.injEq] at hk
          subst hk
          rcases hat with hat | hat
          · exact .inl hat
          · right; omega

end Go.Proofs.YtachmkhbbbmioaaGreat

namespace Go.Proofs.YtachmkhbbbmioaaGreat
open Go.RowKit Go.Shelf

def twoCells (x : Pr) : List Value := [.pointer (some ⟨x.cb, 0, none⟩), .pointer (some ⟨x.yb, 0, none⟩)]
def lawOwn (wb : Nat) (vl vi : Value) : List Nat := wb :: (vl.ownBlock.toList ++ vi.ownBlock.toList)

/-- The law's world: its copies and lists; no block is held by two. -/
structure LawAt (base wb : Nat) (vl vi : Value) (prs : List Pr) (irs : List IR) (w : World) : Prop where
  cp : w.heap[wb]? = some (.cells #[vl, .slice none 0 0, vi, .slice none 0 0] 33)
  l : RowAt 39 2 vl (prs.map twoCells) w
  i : RowAt 95 5 vi (irs.map irCells) w
  pr : ∀ (j : Nat) (x : Pr), prs[j]? = some x → PairAt x w
  ir : ∀ (j : Nat) (r : IR), irs[j]? = some r → IntsAt r w
  ow : ∃ ow : Nat → Nat, (∀ k ∈ lawOwn wb vl vi, ow k = 0 ∧ base ≤ k) ∧ (∀ (j : Nat) (x : Pr), prs[j]? = some x → ∀ k ∈ x.own, ow k = 2 * j + 1 ∧ base ≤ k) ∧ (∀ (j : Nat) (r : IR), irs[j]? = some r → ∀ k ∈ r.own, ow k = 2 * j + 2 ∧ base ≤ k)

structure LawLt (H wb : Nat) (vl vi : Value) (prs : List Pr) (irs : List IR) : Prop where
  l : ∀ k ∈ lawOwn wb vl vi, k < H
  pr : ∀ (j : Nat) (x : Pr), prs[j]? = some x → ∀ k ∈ x.own, k < H
  ir : ∀ (j : Nat) (r : IR), irs[j]? = some r → ∀ k ∈ r.own, k < H

theorem LawAt.lts {base wb : Nat} {vl vi : Value} {prs : List Pr} {irs : List IR} {w : World} (h : LawAt base wb vl vi prs irs w) : LawLt w.heap.size wb vl vi prs irs := by
  refine ⟨fun k hk => ?_, fun j x hj k hk => (h.pr j x hj).lt k hk, fun j r hj k hk => (h.ir j r hj).lt k hk⟩
  simp only [lawOwn, List.mem_cons, List.mem_append, Option.mem_toList] at hk
  rcases hk with rfl | hk | hk
  · exact lt_of_heap h.cp
  · exact h.l.lt hk
  · exact h.i.lt hk

theorem LawAt.kept {base wb : Nat} {vl vi : Value} {prs : List Pr} {irs : List IR} {w w' : World} (h : LawAt base wb vl vi prs irs w) (e : ∀ k, k < w.heap.size → w'.heap[k]? = w.heap[k]?) : LawAt base wb vl vi prs irs w' := by
  have hl := h.lts
  exact ⟨(e wb (lt_of_heap h.cp)).trans h.cp, h.l.kept (fun g hg => e g (h.l.lt hg)), h.i.kept (fun g hg => e g (h.i.lt hg)), fun j x hj => (h.pr j x hj).kept (fun k hk => e k (hl.pr j x hj k hk)), fun j r hj => (h.ir j r hj).kept (fun k hk => e k (hl.ir j r hj k hk)), h.ow⟩

theorem LawAt.below {base wb : Nat} {vl vi : Value} {prs : List Pr} {irs : List IR} {w w' : World} (h : LawAt base wb vl vi prs irs w) (g : Below w.heap.size w w') : LawAt base wb vl vi prs irs w' := h.kept (fun k hk => g.block k hk)
theorem LawAt.grown {base wb : Nat} {vl vi : Value} {prs : List Pr} {irs : List IR} {w w' : World} (h : LawAt base wb vl vi prs irs w) (g : w.grownBy w' none) : LawAt base wb vl vi prs irs w' := h.kept (fun k hk => g.block k hk (by simp))

theorem two_set {prs : List Pr} {j : Nat} {x x' : Pr} (hj : prs[j]? = some x) (h1 : x'.cb = x.cb) (h2 : x'.yb = x.yb) : (prs.set j x').map twoCells = prs.map twoCells := by
  apply List.ext_getElem?
  intro i
  rw [List.getElem?_map, List.getElem?_map, List.getElem?_set]
  by_cases q : j = i
  · subst q
    obtain ⟨hl, hx⟩ := List.getElem?_eq_some_iff.1 hj
    simp [hl, hx, twoCells, h1, h2]
  · simp [q]

/-- One pair has been called. -/
theorem LawAt.after {base wb : Nat} {vl vi : Value} {prs : List Pr} {irs : List IR} {w w2 : World} {j : Nat} {x : Pr} (h : LawAt base wb vl vi prs irs w) (hj : prs[j]? = some x) (hA : After x w w2) (hb : base ≤ w.heap.size) :
    ∃ x', LawAt base wb vl vi (prs.set j x') irs w2 ∧ Below base w w2 := by
  obtain ⟨x', hP, h1, h2, hF, hO⟩ := hA
  obtain ⟨ow, o1, o2, o3⟩ := h.ow
  have hl := h.lts
  have hjl := (List.getElem?_eq_some_iff.1 hj).1
  have key : ∀ k, k < w.heap.size → ow k ≠ 2 * j + 1 → w2.heap[k]? = w.heap[k]? := fun k hk hn => hF.block k hk (fun q => hn (o2 j x hj k q).1)
  refine ⟨x', ⟨?_, ?_, ?_, ?_, ?_, fun k => if k < w.heap.size then ow k else 2 * j + 1, ?_, ?_, ?_⟩, ?_⟩
  · exact (key wb (lt_of_heap h.cp) (by rw [(o1 wb (by simp [lawOwn])).1]; omega)).trans h.cp
  · rw [two_set hj h1 h2]
    exact h.l.kept (fun g hg => key g (h.l.lt hg) (by rw [(o1 g (by simp [lawOwn, hg])).1]; omega))
  · exact h.i.kept (fun g hg => key g (h.i.lt hg) (by rw [(o1 g (by simp [lawOwn, hg])).1]; omega))
  · intro i y hi
    rw [List.getElem?_set] at hi
    by_cases q : j = i
    · subst q
      simp [hjl] at hi
      subst hi
      exact hP
    · rw [if_neg q] at hi
      exact (h.pr i y hi).kept (fun k hk => key k (hl.pr i y hi k hk) (by rw [(o2 i y hi k hk).1]; omega))
  · intro i r hi
    exact (h.ir i r hi).kept (fun k hk => key k (hl.ir i r hi k hk) (by rw [(o3 i r hi k hk).1]; omega))
  · intro k hk
    simp only [if_pos (hl.l k hk)]
    exact o1 k hk
  · intro i y hi k hk
    rw [List.getElem?_set] at hi
    by_cases q : j = i
    · subst q
      simp [hjl] at hi
      subst hi
      rcases hO k hk with hk' | hk'
      · simp only [if_pos (hl.pr j x hj k hk')]
        exact o2 j x hj k hk'
      · simp only [if_neg (show ¬ k < w.heap.size by omega)]
        exact ⟨by first | rfl | trivial, by omega⟩
    · rw [if_neg q] at hi
      simp only [if_pos (hl.pr i y hi k hk)]
      exact o2 i y hi k hk
  · intro i r hi k hk
    simp only [if_pos (hl.ir i r hi k hk)]
    exact o3 i r hi k hk
  · exact hF.toBelow hb (fun k hk => (o2 j x hj k hk).2)

/-- A list has been kept. -/
theorem LawAt.keep {base wb H g : Nat} {vl vi vi' : Value} {prs : List Pr} {irs : List IR} {r : IR} {w w' : World} (h : LawAt base wb vl vi prs irs w) (hH : LawLt H wb vl vi prs irs) (hg : H ≤ g) (hbH : base ≤ H) (hHw : H ≤ w.heap.size)
    (hr : IntsAt r w') (hc : w'.heap[wb]? = some (.cells #[vl, .slice none 0 0, vi', .slice none 0 0] 33)) (hrow : RowAt 95 5 vi' ((irs ++ [r]).map irCells) w')
    (hF : Fr (wb :: g :: vi.ownBlock.toList) w w') (h1 : ∀ k ∈ r.own, k = g ∨ w.heap.size ≤ k) (h2 : ∀ k, vi'.ownBlock = some k → vi.ownBlock = some k ∨ w.heap.size ≤ k) : LawAt base wb vl vi' prs (irs ++ [r]) w' ∧ Below base w w' := by
  obtain ⟨ow, o1, o2, o3⟩ := h.ow
  have hvi : ∀ k, vi.ownBlock = some k → ow k = 0 ∧ base ≤ k := fun k hk => o1 k (by simp [lawOwn, hk])
  have key : ∀ k, k < H → ow k ≠ 0 → w'.heap[k]? = w.heap[k]? := fun k hk hn => hF.block k (by omega) (fun q => by
    simp only [List.mem_cons, Option.mem_toList] at q
    rcases q with rfl | rfl | q
    · exact hn (o1 _ (by simp [lawOwn])).1
    · omega
    · exact hn (hvi k q).1)
  have hri : ∀ k ∈ r.own, H ≤ k := fun k hk => by rcases h1 k hk with q | q <;> omega
  have hvt : ∀ k, vi'.ownBlock = some k → ¬ k ∈ r.own := fun k hk q => by
    have hk2 : ∃ c, w'.heap[k]? = some (.cells c 3) := by
      simp only [IR.own, List.mem_append, Option.mem_toList] at q
      rcases q with q | q | q | q
      · exact hr.l.blk q
      · exact hr.a.blk q
      · exact hr.b.blk q
      · exact hr.c.blk q
    obtain ⟨c, hc1⟩ := hk2
    exact hrow.neBlk hc1 (by decide) hk
  refine ⟨⟨hc, ?_, hrow, ?_, ?_, fun k => if k ∈ r.own then 2 * irs.length + 2 else if k < H then ow k else 0, ?_, ?_, ?_⟩, ?_⟩
  · refine h.l.kept (fun b hb => hF.block b (h.l.lt hb) (fun q => ?_))
    simp only [List.mem_cons, Option.mem_toList] at q
    rcases q with rfl | rfl | q
    · exact h.l.neBlk h.cp (by decide) hb
    · have := hH.l b (by simp [lawOwn, hb]); omega
    · exact h.l.ne h.i (by decide) hb q
  · intro j x hj
    exact (h.pr j x hj).kept (fun k hk => key k (hH.pr j x hj k hk) (by rw [(o2 j x hj k hk).1]; omega))
  · intro j q hj
    rw [List.getElem?_append] at hj
    split at hj
    · exact (h.ir j q hj).kept (fun k hk => key k (hH.ir j q hj k hk) (by rw [(o3 j q hj k hk).1]; omega))
    · have : q = r := by
        rename_i hlt
        rcases Nat.eq_zero_or_pos (j - irs.length) with e | e
        · rw [e] at hj; simpa using hj.symm
        · rw [List.getElem?_eq_none (by simp; omega)] at hj; cases hj
      subst this
      exact hr
  · intro k hk
    simp only [lawOwn, List.mem_cons, List.mem_append, Option.mem_toList] at hk
    rcases hk with rfl | hk | hk
    · have hlt := hH.l k (by simp [lawOwn])
      simp only [if_neg (show ¬ k ∈ r.own from fun q => by have := hri k q; omega), if_pos hlt]
      exact o1 k (by simp [lawOwn])
    · have hlt := hH.l k (by simp [lawOwn, hk])
      simp only [if_neg (show ¬ k ∈ r.own from fun q => by have := hri k q; omega), if_pos hlt]
      exact o1 k (by simp [lawOwn, hk])
    · simp only [if_neg (hvt k hk)]
      rcases h2 k hk with q | q
      · have hlt := hH.l k (by simp [lawOwn, q])
        simp only [if_pos hlt]
        exact hvi k q
      · simp only [if_neg (show ¬ k < H by omega)]
        exact ⟨by first | rfl | trivial, by omega⟩
  · intro j x hj k hk
    have hlt := hH.pr j x hj k hk
    simp only [if_neg (show ¬ k ∈ r.own from fun q => by have := hri k q; omega), if_pos hlt]
    exact o2 j x hj k hk
  · intro j q hj k hk
    rw [List.getElem?_append] at hj
    split at hj
    · have hlt := hH.ir j q hj k hk
      simp only [if_neg (show ¬ k ∈ r.own from fun p => by have := hri k p; omega), if_pos hlt]
      exact o3 j q hj k hk
    · have hjr : q = r ∧ j = irs.length := by
        rename_i hlt
        rcases Nat.eq_zero_or_pos (j - irs.length) with e | e
        · rw [e] at hj; exact ⟨by simpa using hj.symm, by omega⟩
        · rw [List.getElem?_eq_none (by simp; omega)] at hj; cases hj
      obtain ⟨rfl, rfl⟩ := hjr
      simp only [if_pos hk]
      exact ⟨by first | rfl | trivial, by have := hri k hk; omega⟩
  · refine hF.toBelow (by omega) (fun k hk => ?_)
    simp only [List.mem_cons, Option.mem_toList] at hk
    rcases hk with rfl | rfl | hk
    · exact (o1 _ (by simp [lawOwn])).2
    · omega
    · exact (hvi k hk).2

/-- A pair has come. -/
theorem LawAt.more {base wb : Nat} {vl vl' vi : Value} {prs : List Pr} {irs : List IR} {x : Pr} {w w' : World} (h : LawAt base wb vl vi prs irs w) (hbw : base ≤ w.heap.size) (hx : PairAt x w') (hxn : ∀ k ∈ x.own, w.heap.size ≤ k)
    (hc : w'.heap[wb]? = some (.cells #[vl', .slice none 0 0, vi, .slice none 0 0] 33)) (hrow : RowAt 39 2 vl' ((prs ++ [x]).map twoCells) w')
    (hF : Fr (wb :: vl.ownBlock.toList) w w') (h2 : ∀ k, vl'.ownBlock = some k → vl.ownBlock = some k ∨ w.heap.size ≤ k ∧ ¬ k ∈ x.own) : LawAt base wb vl' vi (prs ++ [x]) irs w' ∧ Below base w w' := by
  obtain ⟨ow, o1, o2, o3⟩ := h.ow
  have hH := h.lts
  have hvl : ∀ k, vl.ownBlock = some k → ow k = 0 ∧ base ≤ k := fun k hk => o1 k (by simp [lawOwn, hk])
  have key : ∀ k, k < w.heap.size → ow k ≠ 0 → w'.heap[k]? = w.heap[k]? := fun k hk hn => hF.block k hk (fun q => by
    simp only [List.mem_cons, Option.mem_toList] at q
    rcases q with rfl | q
    · exact hn (o1 _ (by simp [lawOwn])).1
    · exact hn (hvl k q).1)
  refine ⟨⟨hc, hrow, ?_, ?_, ?_, fun k => if k ∈ x.own then 2 * prs.length + 1 else if k < w.heap.size then ow k else 0, ?_, ?_, ?_⟩, ?_⟩
  · refine h.i.kept (fun b hb => hF.block b (h.i.lt hb) (fun q => ?_))
    simp only [List.mem_cons, Option.mem_toList] at q
    rcases q with rfl | q
    · exact h.i.neBlk h.cp (by decide) hb
    · exact h.i.ne h.l (by decide) hb q
  · intro j y hj
    rw [List.getElem?_append] at hj
    split at hj
    · exact (h.pr j y hj).kept (fun k hk => key k (hH.pr j y hj k hk) (by rw [(o2 j y hj k hk).1]; omega))
    · have : y = x := by
        rename_i hlt
        rcases Nat.eq_zero_or_pos (j - prs.length) with e | e
        · rw [e] at hj; simpa using hj.symm
        · rw [List.getElem?_eq_none (by simp; omega)] at hj; cases hj
      subst this
      exact hx
  · intro j r hj
    exact (h.ir j r hj).kept (fun k hk => key k (hH.ir j r hj k hk) (by rw [(o3 j r hj k hk).1]; omega))
  · intro k hk
    simp only [lawOwn, List.mem_cons, List.mem_append, Option.mem_toList] at hk
    have old : ∀ k, k < w.heap.size → (ow k = 0 ∧ base ≤ k) → (if k ∈ x.own then 2 * prs.length + 1 else if k < w.heap.size then ow k else 0) = 0 ∧ base ≤ k := fun k hk ho => by
      simp only [if_neg (show ¬ k ∈ x.own from fun q => by have := hxn k q; omega), if_pos hk]
      exact ho
    rcases hk with rfl | hk | hk
    · exact old k (hH.l k (by simp [lawOwn])) (o1 k (by simp [lawOwn]))
    · rcases h2 k hk with q | ⟨q, q2⟩
      · exact old k (hH.l k (by simp [lawOwn, q])) (hvl k q)
      · simp only [if_neg q2, if_neg (show ¬ k < w.heap.size by omega)]
        exact ⟨by first | rfl | trivial, by omega⟩
    · exact old k (hH.l k (by simp [lawOwn, hk])) (o1 k (by simp [lawOwn, hk]))
  · intro j y hj k hk
    rw [List.getElem?_append] at hj
    split at hj
    · have hlt := hH.pr j y hj k hk
      simp only [if_neg (show ¬ k ∈ x.own from fun p => by have := hxn k p; omega), if_pos hlt]
      exact o2 j y hj k hk
    · have hjr : y = x ∧ j = prs.length := by
        rename_i hlt
        rcases Nat.eq_zero_or_pos (j - prs.length) with e | e
        · rw [e] at hj; exact ⟨by simpa using hj.symm, by omega⟩
        · rw [List.getElem?_eq_none (by simp; omega)] at hj; cases hj
      obtain ⟨rfl, rfl⟩ := hjr
      simp only [if_pos hk]
      exact ⟨by first | rfl | trivial, by have := hxn k hk; omega⟩
  · intro j r hj k hk
    have hlt := hH.ir j r hj k hk
    simp only [if_neg (show ¬ k ∈ x.own from fun p => by have := hxn k p; omega), if_pos hlt]
    exact o3 j r hj k hk
  · refine hF.toBelow hbw (fun k hk => ?_)
    simp only [List.mem_cons, Option.mem_toList] at hk
    rcases hk with rfl | hk
    · exact (o1 _ (by simp [lawOwn])).2
    · exact (hvl k hk).2

end Go.Proofs.YtachmkhbbbmioaaGreat

namespace Go.Proofs.YtachmkhbbbmioaaGreat
open Go.RowKit Go.Shelf

/-- Which of n things a raw number speaks of. -/
def pk (c : Int) (n : Nat) : Nat := (if c < 0 then (-(c + 1)).toNat else c.toNat) % n

theorem pk_lt (c : Int) {n : Nat} (h : 0 < n) : pk c n < n := Nat.mod_lt _ h

set_option maxHeartbeats 400000 in
theorem pickL (c : Int) (n : Nat) (hn : 0 < n) (hn2 : n ≤ 1000000) (h1 : -9223372036854775808 ≤ c) (h2 : c ≤ 9223372036854775807) (w : World) :
    Calls Tryz.prog 12 #[.int .i64 c, .int .i64 n] w fun e w' => e = .returned (.int .i64 (pk c n)) ∧ w' = w := by
  have hz : ¬ (n : Int) = 0 := by omega
  by_cases hc : c < 0
  · go_enter Tryz.func12, Tryz.ntmps12
    go_wp2
    go_ret
    refine ⟨?_, rfl⟩
    show Ending.returned (.int .i64 (-((c + 1).tmod ↑n))) = _
    have e : -((c + 1).tmod ↑n) = ((pk c n : Nat) : Int) := by
      unfold pk
      rw [if_pos hc]
      generalize hk : (-(c + 1)).toNat = k
      have e2 : c + 1 = -(k : Int) := by omega
      rw [e2, Int.neg_tmod, Int.neg_neg, Int.ofNat_tmod]
    rw [e]
  · go_enter Tryz.func12, Tryz.ntmps12
    go_wp2
    go_ret
    refine ⟨?_, rfl⟩
    show Ending.returned (.int .i64 (c % ↑n)) = _
    have e : c % ↑n = ((pk c n : Nat) : Int) := by
      unfold pk
      rw [if_neg (by omega)]
      obtain ⟨k, rfl⟩ := Int.eq_ofNat_of_zero_le (show 0 ≤ c by omega)
      simp
    rw [e]


set_option maxRecDepth 100000 in
set_option maxHeartbeats 2000000 in
/-- Every list still reads as its owner wrote it. -/
theorem looks_any (base wb : Nat) (vl vi : Value) (prs : List Pr) (irs : List IR) (w : World) (h : LawAt base wb vl vi prs irs w) (hlen : irs.length ≤ 2000000) :
    Calls Tryz.prog 17 #[.pointer (some ⟨wb, 0, none⟩)] w fun e w' => e = .returned (.bool true) ∧ Below w.heap.size w w' := by
  obtain ⟨ai, ci, hvi, hci⟩ := h.i.value
  rw [List.length_map] at hvi hci
  go_enter Tryz.func17, Tryz.ntmps17
  go_wp2_with fail
  go_loopg [3] irs.length (fun gk s3 wr => ∃ (i : Nat), s3 = .int .i64 i ∧ i ≤ irs.length ∧ gk = irs.length - i ∧ Below w.heap.size w wr)
  case atStart => exact ⟨0, rfl, by omega, rfl, Below.refl _ _⟩
  case round =>
    obtain ⟨i, rfl, hil, hgk, hB⟩ := hrel
    have h1 := h.below hB
    have c2 : wr.cell? ⟨wb, 2, none⟩ = some vi := cell_blk h1.cp 2
    have c3 : wr.cell? ⟨wb, 3, none⟩ = some (.slice none 0 0) := cell_blk h1.cp 3
    rw [hvi] at c2
    by_cases hlt : i < irs.length
    · have hli : (i : Int) < (irs.length : Int) := by omega
      have hx : irs[i]? = some irs[i] := by simp [hlt]
      generalize irs[i] = r at hx
      obtain ⟨gi, cap, cur, hv, -, hb, hcell⟩ := h1.i.cell (i := i) (x := irCells r) (by simp [hx])
      rw [List.length_map] at hv
      rw [hvi] at hv
      cases hv
      have k0 : wr.cell? ⟨gi, i * 5, none⟩ = some r.l := (cell_blk hb _).trans (hcell 0 _ rfl)
      have k1 : wr.cell? ⟨gi, i * 5 + 1, none⟩ = some r.a := (cell_blk hb _).trans (hcell 1 _ rfl)
      have k2 : wr.cell? ⟨gi, i * 5 + 2, none⟩ = some r.b := (cell_blk hb _).trans (hcell 2 _ rfl)
      have k3 : wr.cell? ⟨gi, i * 5 + 3, none⟩ = some r.c := (cell_blk hb _).trans (hcell 3 _ rfl)
      have k4 : wr.cell? ⟨gi, i * 5 + 4, none⟩ = some (.int .i64 r.m) := (cell_blk hb _).trans (hcell 4 _ rfl)
      have hI := h1.ir i r hx
      obtain ⟨rl, ra, rb, rc, rn, rm⟩ := r
      obtain ⟨al, cl, e1, -⟩ := hI.l.value
      obtain ⟨aa, ca, e2, -⟩ := hI.a.value
      obtain ⟨ab, cb, e3, -⟩ := hI.b.value
      obtain ⟨ac, cc, e4, -⟩ := hI.c.value
      simp only at e1 e2 e3 e4 k0 k1 k2 k3 k4
      rw [fullRow_len] at e1 e2 e3 e4
      subst e1 e2 e3 e4
      have hn8 := hI.n8
      simp only at hn8
      have g2 : wr.grownBy (wr.alloc (.cells #[.slice al rn cl, .slice aa (rn + 1) ca, .slice ab (rn + 2) cb, .slice ac (rn + 3) cc, .int .i64 rm] 95)) none := grown_alloc (grown_refl _) _
      have kx : (wr.alloc (.cells #[.slice al rn cl, .slice aa (rn + 1) ca, .slice ab (rn + 2) cb, .slice ac (rn + 3) cc, .int .i64 rm] 95)).heap[wr.heap.size]? = some (.cells #[.slice al rn cl, .slice aa (rn + 1) ca, .slice ab (rn + 2) cb, .slice ac (rn + 3) cc, .int .i64 rm] 95) := by rw [heap_alloc_at]; simp
      go_upto_region 5 with fail
      generalize (wr.alloc (.cells #[.slice al rn cl, .slice aa (rn + 1) ca, .slice ab (rn + 2) cb, .slice ac (rn + 3) cc, .int .i64 rm] 95)) = w2 at g2 kx ⊢
      have hI2 := hI.kept (w' := w2) (fun k hk => g2.block k (hI.lt k hk) (by simp))
      have hB2 : Below w.heap.size w w2 := hB.grown g2 hB.size (by simp)
      have d0 : w2.cell? ⟨wr.heap.size, 0, none⟩ = some (.slice al rn cl) := cell_blk kx 0
      have d1 : w2.cell? ⟨wr.heap.size, 1, none⟩ = some (.slice aa (rn + 1) ca) := cell_blk kx 1
      have d2 : w2.cell? ⟨wr.heap.size, 2, none⟩ = some (.slice ab (rn + 2) cb) := cell_blk kx 2
      have d3 : w2.cell? ⟨wr.heap.size, 3, none⟩ = some (.slice ac (rn + 3) cc) := cell_blk kx 3
      have d4 : w2.cell? ⟨wr.heap.size, 4, none⟩ = some (.int .i64 rm) := cell_blk kx 4
      have f1 := full_ints rn (by omega) rm _ w2 hI2.l
      have f2 := full_ints (rn + 1) (by omega) rm _ w2 hI2.a
      have f3 := full_ints (rn + 2) (by omega) rm _ w2 hI2.b
      have f4 := full_ints (rn + 3) (by omega) rm _ w2 hI2.c
      simp only at f1 f2 f3 f4
      clear k0 k1 k2 k3 k4 hI hI2 g2 kx hcell hb
      have F1 := hide f1
      have F2 := hide f2
      have F3 := hide f3
      have F4 := hide f4
      clear f1 f2 f3 f4
      go_wp2_with fail
      refine F1.out.mono ?_
      rintro e w' ⟨rfl, hw⟩
      rw [hw]
      clear hw w' F1
      go_wp2_with fail
      refine F2.out.mono ?_
      rintro e w' ⟨rfl, hw⟩
      rw [hw]
      clear hw w' F2
      go_wp2_with fail
      refine F3.out.mono ?_
      rintro e w' ⟨rfl, hw⟩
      rw [hw]
      clear hw w' F3
      go_wp2_with fail
      refine F4.out.mono ?_
      rintro e w' ⟨rfl, hw⟩
      rw [hw]
      clear hw w' F4
      go_wp2_with fail
      go_roundg (irs.length - (i + 1))
      case measure => omega
      case rel => exact ⟨i + 1, by go_num, by omega, rfl, hB2⟩
    · go_wp2_with fail
      go_loopg [5] 1 (fun gk s5 wr' => s5 = .int .i64 0 ∧ wr' = wr)
      case atStart => exact ⟨rfl, rfl⟩
      case round =>
        obtain ⟨rfl, hw⟩ := hrel
        rw [hw]
        go_wp2_with fail
        go_ret
        exact ⟨rfl, hB⟩

end Go.Proofs.YtachmkhbbbmioaaGreat

namespace Go.Proofs.YtachmkhbbbmioaaGreat
open Go.RowKit Go.Shelf

theorem infoTwo : (Tryz.prog.info? 39).map (fun i => (i.zero, i.size, i.bytes)) = some (some (.agg #[.pointer none, .pointer none]), 2, 16) := by kernel_rfl

theorem two_len (l : List Pr) : ∀ y ∈ l.map twoCells, y.length = 2 := by
  intro y hy
  obtain ⟨x, -, rfl⟩ := List.mem_map.1 hy
  rfl

theorem two_one (l : List Pr) : ∀ y ∈ l.map twoCells, ∀ c ∈ y, c.oneCell' = true := by
  intro y hy c hc
  obtain ⟨x, -, rfl⟩ := List.mem_map.1 hy
  simp only [twoCells, List.mem_cons, List.not_mem_nil, or_false] at hc
  rcases hc with rfl | rfl <;> rfl

set_option maxRecDepth 100000 in
set_option maxHeartbeats 2000000 in
/-- A copy that stays. -/
theorem begins_in (base wb n s : Nat) (vl vi : Value) (prs : List Pr) (irs : List IR) (w : World) (h : LawAt base wb vl vi prs irs w) (hb : base ≤ w.heap.size) (h1 : 1 ≤ s) (h2 : s ≤ n) (h3 : n ≤ 8) (hlen : prs.length ≤ 1000) :
    Calls Tryz.prog 13 #[.pointer (some ⟨wb, 0, none⟩), .int .i64 n, .int .i64 s, .bool true] w fun e w' => e = .returned (.bool true) ∧ ∃ vl' x, LawAt base wb vl' vi (prs ++ [x]) irs w' ∧ Below base w w' := by
  have hC := hide (fun w => cpNew_any n s h1 h2 h3 w)
  have hR := hide (fun w => refNew_any n s h1 h2 h3 w)
  obtain ⟨al, cl, hvl, hcl⟩ := h.l.value
  rw [List.length_map] at hvl hcl
  subst hvl
  go_enter Tryz.func13, Tryz.ntmps13
  go_wp2_with fail
  refine (hC.out _).mono ?_
  rintro e w1 ⟨cb, sb, ma, mp, lb, mb, rfl, hcp, hg1, hn1⟩
  go_wp2_with fail
  refine (hR.out _).mono ?_
  rintro e w2 ⟨yb, vc, rfl, hrf, hg2, hn2⟩
  have hG : w.grownBy w2 none := grown_trans hg1 hg2
  have hL := h.grown hG
  have hs1 := hg1.size
  obtain ⟨x, hxc, hxy, hP, hxn⟩ : ∃ x : Pr, x.cb = cb ∧ x.yb = yb ∧ PairAt x w2 ∧ ∀ k ∈ x.own, w.heap.size ≤ k := by
    refine ⟨⟨cb, sb, ma, mp, lb, mb, yb, vc, .slice none 0 0, .slice none 0 0, newS n s, [], [], .slice none 0 0, []⟩, rfl, rfl, ⟨hcp.kept (fun k hk => hg2.block k (hcp.lt k hk) (by simp)), hrf, newS_good h1 h2 h3, by simp [newS, sumcl], by simp [newS, sumcl], opsOk_new n s, logAt_new n w2, by simp, wtRows_nil _ _ _, wtOk_new n s⟩, ?_⟩
    intro k hk
    simp only [Pr.own, List.mem_append, List.not_mem_nil, or_false] at hk
    rcases hk with hk | hk
    · simp only [List.mem_cons, List.not_mem_nil, or_false] at hk
      omega
    · have := hn2 k hk; omega
  subst hxc hxy
  clear hcp hrf hn1 hn2 hg1 hg2 hC hR
  have c0 : w2.cell? ⟨wb, 0, none⟩ = some (.slice al prs.length cl) := cell_blk hL.cp 0
  go_upto_region 6 with fail
  have g3 : w2.grownBy (w2.alloc (.cells #[.pointer (some ⟨x.cb, 0, none⟩), .pointer (some ⟨x.yb, 0, none⟩)] 39)) none := grown_alloc (grown_refl _) _
  have hS3 : SrcAt (w2.alloc (.cells #[.pointer (some ⟨x.cb, 0, none⟩), .pointer (some ⟨x.yb, 0, none⟩)] 39)) (.slice (some ⟨w2.heap.size, 0, none⟩) 1 1) ([x].map twoCells) := src_new w2 (twoCells x) _
  have hR3 := hL.l.grown g3
  have hw3 := (g3.block _ (lt_of_heap hL.cp) (by simp)).trans hL.cp
  have nwl : (Value.slice al prs.length cl).ownBlock ≠ some wb := hL.l.neBlk hL.cp (by decide)
  have hwlt : wb < w2.heap.size := lt_of_heap hL.cp
  go_wp2_with (at_builtin; refine wpList_row Tryz.underlying29 infoTwo rfl (by decide) rfl _ _ rfl (.slice al prs.length cl) _ rfl hR3 _ _ rfl hS3 (two_len _) (two_one _) (by unfold maxLen; simp; omega) (by simp; omega) ?_; intro v' w4 hR4 hg4 hat; have k4 := (hg4.block _ (lt_of_heap hw3) (Ne.symm nwl)).trans hw3; have c4 : w4.cell? ⟨wb, 0, none⟩ = some (.slice al prs.length cl) := cell_blk k4 0; have f4 : w4.frozen? ⟨wb, 0, none⟩ = false := frozen_blk k4 0; obtain ⟨a', c', hv', -⟩ := hR4.value; generalize hn3 : (prs.map twoCells ++ [x].map twoCells).length = n3 at hv'; clear hn3; subst hv')
  go_ret
  refine ⟨rfl, .slice a' n3 c', x, h.more hb (hP.kept (fun k hk => ?_)) hxn ((set_blk k4).trans rfl) ?_ ?_ ?_⟩
  · have hk1 := hP.lt k hk
    have hk2 := hxn k hk
    have hk3 : k ≠ wb := by have := lt_of_heap h.cp; omega
    rw [Below.heap_setCell _ _ _ _ hk3, hg4.block k (by simp; omega) (fun q => by have := h.l.lt q.symm; omega)]
    exact g3.block k hk1 (by simp)
  · rw [List.map_append]
    refine hR4.kept (fun q hq => Below.heap_setCell _ _ _ _ (fun e => ?_))
    subst e
    rcases hat with hat | hat
    · exact nwl (hat ▸ hq)
    · rw [hat] at hq
      simp only [Option.some.injEq, World.size_alloc] at hq
      omega
  · exact ((((Fr.refl _ w).grown hG (by simp)).grown g3 (by simp)).grown hg4 (fun k hk => .inl (by simp [hk]))).setCell (p := ⟨wb, 0, none⟩) (.inl (by simp)) _
  · intro k hk
    rcases hat with hat | hat
    · exact .inl (hat ▸ hk)
    · rw [hat] at hk
      simp only [Option.some.injEq, World.size_alloc] at hk
      have := hG.size
      exact .inr ⟨by omega, fun q => by have := hP.lt k q; omega⟩

set_option maxRecDepth 100000 in
set_option maxHeartbeats 2000000 in
/-- New beside the copies. -/
theorem begins_out (wb : Nat) (A B : Int) (w : World) :
    Calls Tryz.prog 13 #[.pointer (some ⟨wb, 0, none⟩), .int .i64 A, .int .i64 B, .bool false] w fun e w' => e = .returned (.bool true) ∧ Below w.heap.size w w' := by
  by_cases hc : newCode A B = 0
  · unfold newCode at hc
    have hb : 1 ≤ A ∧ A ≤ 8 ∧ 1 ≤ B ∧ B ≤ A := by
      split at hc
      · omega
      · split at hc
        · omega
        · omega
    obtain ⟨n, rfl⟩ := Int.eq_ofNat_of_zero_le (show 0 ≤ A by omega)
    obtain ⟨s, rfl⟩ := Int.eq_ofNat_of_zero_le (show 0 ≤ B by omega)
    have hC := hide (fun w => cpNew_any n s (by omega) (by omega) (by omega) w)
    have hR := hide (fun w => refNew_any n s (by omega) (by omega) (by omega) w)
    clear hc
    go_enter Tryz.func13, Tryz.ntmps13
    go_wp2_with fail
    refine (hC.out _).mono ?_
    rintro e w1 ⟨cb, sb, ma, mp, lb, mb, rfl, hcp, hg1, hn1⟩
    clear hcp hn1
    go_wp2_with fail
    refine (hR.out _).mono ?_
    rintro e w2 ⟨yb, vc, rfl, hrf, hg2, hn2⟩
    clear hrf hn2
    go_wp2_with fail
    go_ret
    exact ⟨rfl, (Below.refl _ w).grown (grown_trans hg1 hg2) (Nat.le_refl _) (by simp)⟩
  · have hC := hide (fun w => cpNew_bad A B hc w)
    have hR := hide (fun w => refNew_bad A B hc w)
    generalize newCode A B = c at hC hR hc
    go_enter Tryz.func13, Tryz.ntmps13
    go_wp2_with fail
    refine (hC.out _).mono ?_
    rintro e w1 ⟨rfl, hg1⟩
    go_wp2_with fail
    refine (hR.out _).mono ?_
    rintro e w2 ⟨rfl, hg2⟩
    have hne : (c != c) = false := by simp
    go_wp2_with fail
    go_ret
    exact ⟨rfl, (Below.refl _ w).grown (grown_trans hg1 hg2) (Nat.le_refl _) (by simp)⟩

end Go.Proofs.YtachmkhbbbmioaaGreat

namespace Go.Proofs.YtachmkhbbbmioaaGreat
open Go.RowKit Go.Shelf

theorem After.pre {x : Pr} {w w1 w2 : World} (h : After x w1 w2) (g : w.grownBy w1 none) : After x w w2 := by
  obtain ⟨x', hP, h1, h2, hF, hO⟩ := h
  exact ⟨x', hP, h1, h2, ((Fr.refl _ w).grown g (by simp)).trans hF, hO.mono g.size⟩

theorem LawAt.same {base wb : Nat} {vl vi : Value} {prs : List Pr} {irs : List IR} {w w2 : World} {j : Nat} {x : Pr} (h : LawAt base wb vl vi prs irs w) (hj : prs[j]? = some x) (hP : PairAt x w2) (hF : Fr x.own w w2) (hb : base ≤ w.heap.size) :
    LawAt base wb vl vi prs irs w2 ∧ Below base w w2 := by
  obtain ⟨ow, o1, o2, o3⟩ := h.ow
  have hl := h.lts
  have key : ∀ k, k < w.heap.size → ow k ≠ 2 * j + 1 → w2.heap[k]? = w.heap[k]? := fun k hk hn => hF.block k hk (fun q => hn (o2 j x hj k q).1)
  refine ⟨⟨?_, ?_, ?_, ?_, ?_, ow, o1, o2, o3⟩, hF.toBelow hb (fun k hk => (o2 j x hj k hk).2)⟩
  · exact (key wb (lt_of_heap h.cp) (by rw [(o1 wb (by simp [lawOwn])).1]; omega)).trans h.cp
  · exact h.l.kept (fun g hg => key g (h.l.lt hg) (by rw [(o1 g (by simp [lawOwn, hg])).1]; omega))
  · exact h.i.kept (fun g hg => key g (h.i.lt hg) (by rw [(o1 g (by simp [lawOwn, hg])).1]; omega))
  · intro i y hi
    by_cases q : j = i
    · subst q
      rw [hj] at hi
      cases hi
      exact hP
    · exact (h.pr i y hi).kept (fun k hk => key k (hl.pr i y hi k hk) (by rw [(o2 i y hi k hk).1]; omega))
  · intro i r hi
    exact (h.ir i r hi).kept (fun k hk => key k (hl.ir i r hi k hk) (by rw [(o3 i r hi k hk).1]; omega))

set_option maxRecDepth 100000 in
set_option maxHeartbeats 2000000 in
/-- Insert, Delete on both sides. -/
theorem writes_any (wb : Nat) (x : Pr) (k C A B : Int) (s : ByteArray) (w : World) (h : PairAt x w) :
    Calls Tryz.prog 65 #[.pointer (some ⟨wb, 0, none⟩), .agg #[.pointer (some ⟨x.cb, 0, none⟩), .pointer (some ⟨x.yb, 0, none⟩)], .agg #[.int .i64 k, .int .i64 C, .int .i64 A, .int .i64 B, .string s]] w fun e w' => e = .returned (.bool true) ∧ After x w w' := by
  have hlt := h.lt
  have g1 : w.grownBy ((w.alloc (.cells #[.pointer (some ⟨x.cb, 0, none⟩), .pointer (some ⟨x.yb, 0, none⟩)] 39)).alloc (.cells #[.int .i64 k, .int .i64 C, .int .i64 A, .int .i64 B, .string s] 72)) none := grown_alloc (grown_alloc (grown_refl _) _) _
  have k1 : ((w.alloc (.cells #[.pointer (some ⟨x.cb, 0, none⟩), .pointer (some ⟨x.yb, 0, none⟩)] 39)).alloc (.cells #[.int .i64 k, .int .i64 C, .int .i64 A, .int .i64 B, .string s] 72)).heap[w.heap.size]? = some (.cells #[.pointer (some ⟨x.cb, 0, none⟩), .pointer (some ⟨x.yb, 0, none⟩)] 39) := by
    rw [Below.heap_alloc _ _ _ (by simp), heap_alloc_at]; simp
  have k2 : ((w.alloc (.cells #[.pointer (some ⟨x.cb, 0, none⟩), .pointer (some ⟨x.yb, 0, none⟩)] 39)).alloc (.cells #[.int .i64 k, .int .i64 C, .int .i64 A, .int .i64 B, .string s] 72)).heap[w.heap.size + 1]? = some (.cells #[.int .i64 k, .int .i64 C, .int .i64 A, .int .i64 B, .string s] 72) := by
    rw [heap_alloc_at]; simp
  go_enter Tryz.func65, Tryz.ntmps65
  go_upto_region 1 with fail
  generalize ((w.alloc (.cells #[.pointer (some ⟨x.cb, 0, none⟩), .pointer (some ⟨x.yb, 0, none⟩)] 39)).alloc (.cells #[.int .i64 k, .int .i64 C, .int .i64 A, .int .i64 B, .string s] 72)) = w1 at g1 k1 k2 ⊢
  have h1 : PairAt x w1 := h.kept (fun k hk => g1.block k (hlt k hk) (by simp))
  have n1 : w.heap.size ∉ x.own := fun q => by have := hlt _ q; omega
  have n2 : w.heap.size + 1 ∉ x.own := fun q => by have := hlt _ q; omega
  generalize w.heap.size + 1 = b2 at k2 n2 ⊢
  generalize w.heap.size = b1 at k1 n1 ⊢
  have a0 : w1.cell? ⟨b2, 0, none⟩ = some (.int .i64 k) := cell_blk k2 0
  have a2 : w1.cell? ⟨b2, 2, none⟩ = some (.int .i64 A) := cell_blk k2 2
  have a3 : w1.cell? ⟨b2, 3, none⟩ = some (.int .i64 B) := cell_blk k2 3
  have d0 : w1.cell? ⟨b1, 0, none⟩ = some (.pointer (some ⟨x.cb, 0, none⟩)) := cell_blk k1 0
  by_cases hk : k = 1
  · subst hk
    obtain ⟨r, hr⟩ : ∃ r, IntKind.i32.wrap B = r := ⟨_, rfl⟩
    have hr2 : IntKind.i64.wrap r = r := by subst hr; rw [IntKind.wrap_i32, IntKind.wrap_i64]; omega
    obtain ⟨code, hcode⟩ := pair_ins x A r w1 h1
    have hC := hide hcode
    clear hcode
    go_wp2_with fail
    refine hC.out.mono ?_
    rintro e w2 ⟨rfl, hF, hN⟩
    have hN2 := hide hN
    clear hN
    have kk1 := hF.blk k1 n1
    have kk2 := hF.blk k2 n2
    have aa2 : w2.cell? ⟨b2, 2, none⟩ = some (.int .i64 A) := cell_blk kk2 2
    have dd1 : w2.cell? ⟨b1, 1, none⟩ = some (.pointer (some ⟨x.yb, 0, none⟩)) := cell_blk kk1 1
    go_wp2_with fail
    refine hN2.out.mono ?_
    rintro e w3 ⟨rfl, hA⟩
    have he : (code == code) = true := by simp
    go_wp2_with fail
    go_ret
    exact ⟨rfl, hA.pre g1⟩
  · obtain ⟨code, hcode⟩ := pair_del x A w1 h1
    have hC := hide hcode
    clear hcode
    go_wp2_with fail
    refine hC.out.mono ?_
    rintro e w2 ⟨rfl, hF, hN⟩
    have hN2 := hide hN
    clear hN
    have kk1 := hF.blk k1 n1
    have kk2 := hF.blk k2 n2
    have aa2 : w2.cell? ⟨b2, 2, none⟩ = some (.int .i64 A) := cell_blk kk2 2
    have dd1 : w2.cell? ⟨b1, 1, none⟩ = some (.pointer (some ⟨x.yb, 0, none⟩)) := cell_blk kk1 1
    go_wp2_with fail
    refine hN2.out.mono ?_
    rintro e w3 ⟨rfl, hA⟩
    have he : (code == code) = true := by simp
    go_wp2_with fail
    go_ret
    exact ⟨rfl, hA.pre g1⟩

end Go.Proofs.YtachmkhbbbmioaaGreat
