import Derived.Test.YtachmkhbbbmioaaGreatKeepX
import Derived.Deep.RegionLaw
import Derived.Deep.AppendLies
namespace Go.Proofs.YtachmkhbbbmioaaGreat
open Go.RowKit Go.Shelf

/-- A list of texts that came out, and those made of it: all full of the owner's mark. -/
structure TR where
  l : Value
  a : Value
  b : Value
  c : Value
  n : Nat
  m : List UInt8

def trCells (r : TR) : List Value := [r.l, r.a, r.b, r.c, str r.m]
def TR.own (r : TR) : List Nat := r.l.ownBlock.toList ++ (r.a.ownBlock.toList ++ (r.b.ownBlock.toList ++ r.c.ownBlock.toList))

structure TextsAt (r : TR) (w : World) : Prop where
  l : RowAt 9 1 r.l (fullT r.n r.m) w
  a : RowAt 9 1 r.a (fullT (r.n + 1) r.m) w
  b : RowAt 9 1 r.b (fullT (r.n + 2) r.m) w
  c : RowAt 9 1 r.c (fullT (r.n + 3) r.m) w
  n8 : r.n ≤ 1000

theorem TextsAt.kept {r : TR} {w w' : World} (h : TextsAt r w) (e : ∀ k ∈ r.own, w'.heap[k]? = w.heap[k]?) : TextsAt r w' :=
  ⟨h.l.kept (fun g hg => e g (by simp [TR.own, hg])), h.a.kept (fun g hg => e g (by simp [TR.own, hg])), h.b.kept (fun g hg => e g (by simp [TR.own, hg])), h.c.kept (fun g hg => e g (by simp [TR.own, hg])), h.n8⟩

theorem TextsAt.blk {r : TR} {w : World} (h : TextsAt r w) : ∀ k ∈ r.own, ∃ c, w.heap[k]? = some (.cells c 9) := by
  intro k hk
  simp only [TR.own, List.mem_append, Option.mem_toList] at hk
  rcases hk with hk | hk | hk | hk
  · exact h.l.blk hk
  · exact h.a.blk hk
  · exact h.b.blk hk
  · exact h.c.blk hk

theorem TextsAt.lt {r : TR} {w : World} (h : TextsAt r w) : ∀ k ∈ r.own, k < w.heap.size := fun k hk => by
  obtain ⟨c, hc⟩ := h.blk k hk
  exact lt_of_heap hc

theorem infoTR : (Tryz.prog.info? 98).map (fun i => (i.zero, i.size, i.bytes)) = some (some (.agg #[.slice none 0 0, .slice none 0 0, .slice none 0 0, .slice none 0 0, .string ⟨#[]⟩]), 5, 112) := by kernel_rfl

theorem conv3 {w : World} {a : Nat} {x y z : Int} (k0 : w.cell? ⟨a, 0, none⟩ = some (.int .u8 (x % 256))) (k1 : w.cell? ⟨a, 1, none⟩ = some (.int .u8 (y % 256))) (k2 : w.cell? ⟨a, 2, none⟩ = some (.int .u8 (z % 256))) : (convert 69 9 (.slice (some ⟨a, 0, none⟩) 3 3)).run Tryz.prog w = .ok (str [lob x, lob y, lob z]) w := by
  refine convL w a 3 [lob x, lob y, lob z] 3 rfl (fun j b hj => ?_)
  match j, hj with
  | 0, hj => simp only [List.getElem?_cons_zero, Option.some.injEq] at hj; subst hj; rw [lob_nat]; exact k0
  | 1, hj => simp only [List.getElem?_cons_succ, List.getElem?_cons_zero, Option.some.injEq] at hj; subst hj; rw [lob_nat]; exact k1
  | 2, hj => simp only [List.getElem?_cons_succ, List.getElem?_cons_zero, Option.some.injEq] at hj; subst hj; rw [lob_nat]; exact k2
  | j + 3, hj => simp at hj

theorem fullT_step (i : Nat) (M : List UInt8) (xs : List (List Value)) (x : List Value) (hi : xs[i]? = some x) (hx : x.length = 1) : (fullT i M ++ xs.drop i).set i (x.set 0 (str M)) = fullT (i + 1) M ++ xs.drop (i + 1) := by
  have hlt := (List.getElem?_eq_some_iff.1 hi).1
  have hd : xs.drop i = x :: xs.drop (i + 1) := by
    rw [List.drop_eq_getElem_cons hlt]
    congr 1
    exact (List.getElem?_eq_some_iff.1 hi).2
  rw [hd, List.set_append_right _ _ (by simp [fullT]), fullT_len, Nat.sub_self, List.set_cons_zero]
  obtain ⟨y, rfl⟩ : ∃ y, x = [y] := List.length_eq_one_iff.1 hx
  show fullT i M ++ [str M] :: xs.drop (i + 1) = _
  unfold fullT
  rw [List.replicate_succ', List.append_assoc]
  rfl

theorem RowAt.besides {e e' : TypeId} {k : Nat} {u : Value} {xs : List (List Value)} {w : World} (h : RowAt e k u xs w) {b : Nat} {c : Array Value} (hb : w.heap[b]? = some (.cells c e')) (hne : e ≠ e') (i : Nat) (val : Value) : RowAt e k u xs (w.setCell ⟨b, i, none⟩ val) :=
  h.kept (fun g hg => Below.heap_setCell _ _ _ _ (fun q => by
    obtain ⟨cur, hc⟩ := h.blk hg
    have q' : g = b := q
    rw [q', hb] at hc
    cases hc
    exact hne rfl))

theorem rep_cell (w : World) (k : Nat) (M : List UInt8) : ∀ j, j < k → (w.alloc (.cells (List.replicate k (str M)).toArray 9)).cell? ⟨w.heap.size, j, none⟩ = some (str M) := by
  intro j hj
  have hk : (w.alloc (.cells (List.replicate k (str M)).toArray 9)).heap[w.heap.size]? = some (.cells (List.replicate k (str M)).toArray 9) := by rw [heap_alloc_at]; simp
  rw [cell_blk hk j, List.getElem?_toArray]
  simp [hj]

set_option maxRecDepth 100000 in
set_option maxHeartbeats 8000000 in
theorem keep_texts (wb : Nat) (a0 a1 a2 vt : Value) (trs : List TR) (v : Value) (xs : List (List Value)) (w : World) (hw : w.heap[wb]? = some (.cells #[a0, a1, a2, vt] 33)) (ht : RowAt 98 5 vt (trs.map trCells) w)
    (hl : RowAt 9 1 v xs w) (hxn : xs.length ≤ 1000) (hlen : trs.length ≤ 2000000) :
    Calls Tryz.prog 39 #[.pointer (some ⟨wb, 0, none⟩), v] w fun e w' => e = .returned (.tuple #[]) ∧ ∃ r vt', TextsAt r w' ∧ w'.heap[wb]? = some (.cells #[a0, a1, a2, vt'] 33) ∧
      RowAt 98 5 vt' ((trs ++ [r]).map trCells) w' ∧ Fr (wb :: (v.ownBlock.toList ++ vt.ownBlock.toList)) w w' ∧ (∀ k ∈ r.own, v.ownBlock = some k ∨ w.heap.size ≤ k) ∧ (∀ k, vt'.ownBlock = some k → vt.ownBlock = some k ∨ w.heap.size ≤ k) := by
  obtain ⟨ai, ci, hvi, hci⟩ := ht.value
  rw [List.length_map] at hvi hci
  have c3 : w.cell? ⟨wb, 3, none⟩ = some vt := cell_blk hw 3
  rw [hvi] at c3
  have hgw : v.ownBlock ≠ some wb := hl.neBlk hw (by decide)
  have hgv : ∀ g, v.ownBlock = some g → vt.ownBlock ≠ some g := fun g hg q => hl.ne ht (by decide) hg q
  have hwlt : wb < w.heap.size := lt_of_heap hw
  obtain ⟨av, cv, hv, -⟩ := hl.value
  obtain ⟨n, hn⟩ : ∃ n, xs.length = n := ⟨_, rfl⟩
  rw [hn] at hv hxn
  subst hv
  -- the mark
  have hc3 := @conv3 (w.alloc (.cells #[.int .u8 ((trs.length : Int) % 256), .int .u8 ((trs.length : Int) / 256 % 256), .int .u8 ((trs.length : Int) / 65536 % 256)] 5)) w.heap.size (trs.length : Int) ((trs.length : Int) / 256) ((trs.length : Int) / 65536) (by simp) (by simp) (by simp)
  obtain ⟨M, hM⟩ : ∃ M, [109, 97, 114, 107, 32] ++ [lob (trs.length : Int), lob ((trs.length : Int) / 256), lob ((trs.length : Int) / 65536)] = M := ⟨_, rfl⟩
  have hadd := sadd' hM (by simp)
  generalize [lob (trs.length : Int), lob ((trs.length : Int) / 256), lob ((trs.length : Int) / 65536)] = m3 at hc3 hadd hM
  clear hM
  have g1 : w.grownBy (w.alloc (.cells #[.int .u8 ((trs.length : Int) % 256), .int .u8 ((trs.length : Int) / 256 % 256), .int .u8 ((trs.length : Int) / 65536 % 256)] 5)) none := grown_alloc (grown_refl _) _
  have HLEN := hide hlen
  clear hlen
  go_enter Tryz.func39, Tryz.ntmps39
  go_wp2_with fail
  generalize (w.alloc (.cells #[.int .u8 ((trs.length : Int) % 256), .int .u8 ((trs.length : Int) / 256 % 256), .int .u8 ((trs.length : Int) / 65536 % 256)] 5)) = w1 at g1 hc3 ⊢
  clear hc3 hadd c3
  have hl1 := hl.grown g1
  have hF1 : Fr (Value.slice av n cv).ownBlock.toList w w1 := Fr.ofGrown g1
  go_loopg [6] n (fun gk s6 wr => ∃ (i : Nat), s6 = .int .i64 i ∧ i ≤ n ∧ gk = n - i ∧ RowAt 9 1 (.slice av n cv) (fullT i M ++ xs.drop i) wr ∧ Fr (Value.slice av n cv).ownBlock.toList w wr)
  case atStart => exact ⟨0, rfl, by omega, rfl, by simpa [fullT] using hl1, hF1⟩
  case round =>
    obtain ⟨i, rfl, hin, hgk, hR, hF⟩ := hrel
    by_cases hlt : i < n
    · have hli : (i : Int) < (n : Int) := by omega
      have hx : xs[i]? = some xs[i] := by simp [hn, hlt]
      have hx1 : (xs[i]).length = 1 := hl.2 _ (List.getElem_mem _)
      generalize xs[i] = x at hx hx1
      have hxi : (fullT i M ++ xs.drop i)[i]? = some x := by
        rw [List.getElem?_append_right (by simp [fullT]), fullT_len, Nat.sub_self, List.getElem?_drop]; simpa using hx
      obtain ⟨y, rfl⟩ : ∃ y, x = [y] := List.length_eq_one_iff.1 hx1
      obtain ⟨g, c', cur, hv', -, hb, hcell⟩ := hR.cell hxi
      have hlR : (fullT i M ++ xs.drop i).length = n := by simp [fullT, hn]; omega
      rw [hlR] at hv'
      cases hv'
      have hset := hR.set (i := i) (j := 0) (y := str M) hxi (by omega)
      rw [fullT_step i M xs [y] hx hx1, Nat.mul_one, Nat.add_zero] at hset
      have d1 : wr.cell? ⟨g, i, none⟩ = some y := (cell_blk hb _).trans (by simpa using hcell 0 _ rfl)
      have f1 : wr.frozen? ⟨g, i, none⟩ = false := frozen_blk hb _
      have hF' := hF.setCell (p := ⟨g, i, none⟩) (.inl (by simp [Value.ownBlock])) (str M)
      clear hR hxi hcell hx hx1
      go_wp2_with fail
      go_roundg (n - (i + 1))
      case measure => omega
      case rel => exact ⟨i + 1, by go_num, by omega, rfl, hset, hF'⟩
    · obtain rfl : i = n := by omega
      have hR1 : RowAt 9 1 (.slice av i cv) (fullT i M) wr := by
        have := hR
        rw [List.drop_of_length_le (by omega), List.append_nil] at this
        exact this
      have hws : wr.heap[wb]? = some (.cells #[a0, a1, a2, vt] 33) := hF.blk hw (by simpa using hgw)
      have hi1 : RowAt 98 5 vt (trs.map trCells) wr := ht.kept (fun k hk => hF.block k (ht.lt hk) (by simp only [Option.mem_toList]; exact fun q => hgv k q hk))
      have hs1 : w.heap.size ≤ wr.heap.size := hF.size
      clear hR hl1 hF1 g1
      have hli : ¬ (i : Int) < (i : Int) := by omega
      go_upto_region 7 with fail
      have g2 : wr.grownBy (wr.alloc (.cells #[.slice av i cv, .slice none 0 0, .slice none 0 0, .slice none 0 0, str M] 98)) none := grown_alloc (grown_refl _) _
      have kx : (wr.alloc (.cells #[.slice av i cv, .slice none 0 0, .slice none 0 0, .slice none 0 0, str M] 98)).heap[wr.heap.size]? = some (.cells #[.slice av i cv, .slice none 0 0, .slice none 0 0, .slice none 0 0, str M] 98) := by rw [heap_alloc_at]; simp
      have hlx := hR1.grown g2
      have hi2 := hi1.grown g2
      have hw2 := (g2.block _ (lt_of_heap hws) (by simp)).trans hws
      have hF2 := hF.grown g2 (by simp)
      have hvx : vt.ownBlock ≠ some wr.heap.size := fun q => by have := hi1.lt q; omega
      have hwx : wb ≠ wr.heap.size := by have := lt_of_heap hws; omega
      have hvbx : (Value.slice av i cv).ownBlock ≠ some wr.heap.size := fun q => by have := hR1.lt q; omega
      generalize (wr.alloc (.cells #[.slice av i cv, .slice none 0 0, .slice none 0 0, .slice none 0 0, str M] 98)) = w2 at kx hlx hi2 hw2 hF2 ⊢
      clear hR1 hi1 hws g2 hF
      rename RowAt 98 5 vt (trs.map trCells) w2 => hi1
      rename w2.heap[wb]? = _ => hws
      rename Fr (Value.slice av i cv).ownBlock.toList w w2 => hF
      generalize wr.heap.size = bx at kx hs1 hvx hwx hvbx ⊢
      have gA1 : w2.grownBy (w2.alloc (.cells #[str M] 9)) none := grown_alloc (grown_refl _) _
      have hlA1 := hlx.grown gA1
      have kA1 := (gA1.block _ (lt_of_heap kx) (by simp)).trans kx
      have hcA1 : ∀ j, j < 1 → (w2.alloc (.cells #[str M] 9)).cell? ⟨w2.heap.size, j, none⟩ = some (str M) := rep_cell w2 1 M
      go_upto_region 8 with (at_builtin; refine wpList_fill rfl _ _ rfl (.slice av i cv) i M rfl hlA1 w2.heap.size 1 (by omega) rfl hcA1 (by omega) ?_; intro VV u1 hRk hkp hFk hOk; obtain ⟨p1, q1, rfl, -⟩ := hRk.value; rw [fullT_len] at hRk hOk ⊢; have kU : u1.heap[bx]? = some (.cells #[.slice av i cv, .slice none 0 0, .slice none 0 0, .slice none 0 0, str M] 98) := hFk.blk kA1 (by simpa using hvbx); have dk : u1.cell? ⟨bx, 1, none⟩ = some (.slice none 0 0) := cell_blk kU 1; have fk : u1.frozen? ⟨bx, 1, none⟩ = false := frozen_blk kU 1)
      have kx1 : (u1.setCell ⟨bx, 1, none⟩ (.slice p1 (i + 1) q1)).heap[bx]? = some (.cells #[.slice av i cv, (.slice p1 (i + 1) q1), .slice none 0 0, .slice none 0 0, str M] 98) := by rw [set_blk kU]; rfl
      have hv1 : RowAt 9 1 (.slice p1 (i + 1) q1) (fullT (i + 1) M) (u1.setCell ⟨bx, 1, none⟩ (.slice p1 (i + 1) q1)) := hRk.besides kU (by decide) 1 (.slice p1 (i + 1) q1)
      have hlx1 : RowAt 9 1 (.slice av i cv) (fullT i M) (u1.setCell ⟨bx, 1, none⟩ (.slice p1 (i + 1) q1)) := (hkp _ _ hlA1).besides kU (by decide) 1 (.slice p1 (i + 1) q1)
      have hwx1 : (u1.setCell ⟨bx, 1, none⟩ (.slice p1 (i + 1) q1)).heap[wb]? = some (.cells #[a0, a1, a2, vt] 33) := by rw [Below.heap_setCell _ _ _ _ hwx]; exact hFk.blk ((gA1.block _ (lt_of_heap hws) (by simp)).trans hws) (by simpa using hgw)
      have hix1 : RowAt 98 5 vt (trs.map trCells) (u1.setCell ⟨bx, 1, none⟩ (.slice p1 (i + 1) q1)) := hi1.kept (fun q hq => by have hqb : q ≠ bx := fun e => hvx (e ▸ hq); rw [Below.heap_setCell _ _ _ _ hqb, hFk.block q (by have := hi1.lt hq; have := gA1.size; omega) (by simp only [Option.mem_toList]; exact fun z => hgv q z hq), gA1.block q (hi1.lt hq) (by simp)])
      have hFx1 : Fr (Value.slice av i cv).ownBlock.toList w (u1.setCell ⟨bx, 1, none⟩ (.slice p1 (i + 1) q1)) := ((hF.grown gA1 (by simp)).trans hFk).setCell (p := ⟨bx, 1, none⟩) (.inr (by simpa using hs1)) (.slice p1 (i + 1) q1)
      have hon1 : ∀ g, (Value.slice p1 (i + 1) q1).ownBlock = some g → (Value.slice av i cv).ownBlock = some g ∨ w.heap.size ≤ g := fun g hg => (hOk g hg).imp id (fun e => by rw [e]; have := hF.size; have := gA1.size; omega)
      generalize (u1.setCell ⟨bx, 1, none⟩ (.slice p1 (i + 1) q1)) = w3 at kx1 hv1 hlx1 hwx1 hix1 hFx1 ⊢
      clear kx hlx hws hi1 hF gA1 hlA1 kA1 hcA1 hRk hkp hFk hOk kU dk fk 
      rename w3.heap[bx]? = _ => kx
      rename RowAt 9 1 (.slice av i cv) (fullT i M) w3 => hlx
      rename w3.heap[wb]? = _ => hws
      rename RowAt 98 5 vt (trs.map trCells) w3 => hi1
      rename Fr (Value.slice av i cv).ownBlock.toList w w3 => hF
      have gA2 : w3.grownBy (w3.alloc (.cells #[str M, str M] 9)) none := grown_alloc (grown_refl _) _
      have hlA2 := hlx.grown gA2
      have kA2 := (gA2.block _ (lt_of_heap kx) (by simp)).trans kx
      have hcA2 : ∀ j, j < 2 → (w3.alloc (.cells #[str M, str M] 9)).cell? ⟨w3.heap.size, j, none⟩ = some (str M) := rep_cell w3 2 M
      go_upto_region 9 with (at_builtin; refine wpList_fill rfl _ _ rfl (.slice av i cv) i M rfl hlA2 w3.heap.size 2 (by omega) rfl hcA2 (by omega) ?_; intro VV u2 hRk hkp hFk hOk; obtain ⟨p2, q2, rfl, -⟩ := hRk.value; rw [fullT_len] at hRk hOk ⊢; have kU : u2.heap[bx]? = some (.cells #[.slice av i cv, (.slice p1 (i + 1) q1), .slice none 0 0, .slice none 0 0, str M] 98) := hFk.blk kA2 (by simpa using hvbx); have dk : u2.cell? ⟨bx, 2, none⟩ = some (.slice none 0 0) := cell_blk kU 2; have fk : u2.frozen? ⟨bx, 2, none⟩ = false := frozen_blk kU 2)
      have kx2 : (u2.setCell ⟨bx, 2, none⟩ (.slice p2 (i + 2) q2)).heap[bx]? = some (.cells #[.slice av i cv, (.slice p1 (i + 1) q1), (.slice p2 (i + 2) q2), .slice none 0 0, str M] 98) := by rw [set_blk kU]; rfl
      have hv2 : RowAt 9 1 (.slice p2 (i + 2) q2) (fullT (i + 2) M) (u2.setCell ⟨bx, 2, none⟩ (.slice p2 (i + 2) q2)) := hRk.besides kU (by decide) 2 (.slice p2 (i + 2) q2)
      have hlx2 : RowAt 9 1 (.slice av i cv) (fullT i M) (u2.setCell ⟨bx, 2, none⟩ (.slice p2 (i + 2) q2)) := (hkp _ _ hlA2).besides kU (by decide) 2 (.slice p2 (i + 2) q2)
      have hv1_2 : RowAt 9 1 (.slice p1 (i + 1) q1) (fullT (i + 1) M) (u2.setCell ⟨bx, 2, none⟩ (.slice p2 (i + 2) q2)) := (hkp _ _ (hv1.grown gA2)).besides kU (by decide) 2 (.slice p2 (i + 2) q2)
      have hwx2 : (u2.setCell ⟨bx, 2, none⟩ (.slice p2 (i + 2) q2)).heap[wb]? = some (.cells #[a0, a1, a2, vt] 33) := by rw [Below.heap_setCell _ _ _ _ hwx]; exact hFk.blk ((gA2.block _ (lt_of_heap hws) (by simp)).trans hws) (by simpa using hgw)
      have hix2 : RowAt 98 5 vt (trs.map trCells) (u2.setCell ⟨bx, 2, none⟩ (.slice p2 (i + 2) q2)) := hi1.kept (fun q hq => by have hqb : q ≠ bx := fun e => hvx (e ▸ hq); rw [Below.heap_setCell _ _ _ _ hqb, hFk.block q (by have := hi1.lt hq; have := gA2.size; omega) (by simp only [Option.mem_toList]; exact fun z => hgv q z hq), gA2.block q (hi1.lt hq) (by simp)])
      have hFx2 : Fr (Value.slice av i cv).ownBlock.toList w (u2.setCell ⟨bx, 2, none⟩ (.slice p2 (i + 2) q2)) := ((hF.grown gA2 (by simp)).trans hFk).setCell (p := ⟨bx, 2, none⟩) (.inr (by simpa using hs1)) (.slice p2 (i + 2) q2)
      have hon2 : ∀ g, (Value.slice p2 (i + 2) q2).ownBlock = some g → (Value.slice av i cv).ownBlock = some g ∨ w.heap.size ≤ g := fun g hg => (hOk g hg).imp id (fun e => by rw [e]; have := hF.size; have := gA2.size; omega)
      generalize (u2.setCell ⟨bx, 2, none⟩ (.slice p2 (i + 2) q2)) = w4 at kx2 hv2 hlx2 hwx2 hix2 hFx2 hv1_2 ⊢
      clear kx hlx hws hi1 hF gA2 hlA2 kA2 hcA2 hRk hkp hFk hOk kU dk fk hv1
      rename w4.heap[bx]? = _ => kx
      rename RowAt 9 1 (.slice av i cv) (fullT i M) w4 => hlx
      rename w4.heap[wb]? = _ => hws
      rename RowAt 98 5 vt (trs.map trCells) w4 => hi1
      rename Fr (Value.slice av i cv).ownBlock.toList w w4 => hF
      rename RowAt 9 1 (.slice p1 (i + 1) q1) (fullT (i + 1) M) w4 => hv1
      have gA3 : w4.grownBy (w4.alloc (.cells #[str M, str M, str M] 9)) none := grown_alloc (grown_refl _) _
      have hlA3 := hlx.grown gA3
      have kA3 := (gA3.block _ (lt_of_heap kx) (by simp)).trans kx
      have hcA3 : ∀ j, j < 3 → (w4.alloc (.cells #[str M, str M, str M] 9)).cell? ⟨w4.heap.size, j, none⟩ = some (str M) := rep_cell w4 3 M
      go_upto_region 10 with (at_builtin; refine wpList_fill rfl _ _ rfl (.slice av i cv) i M rfl hlA3 w4.heap.size 3 (by omega) rfl hcA3 (by omega) ?_; intro VV u3 hRk hkp hFk hOk; obtain ⟨p3, q3, rfl, -⟩ := hRk.value; rw [fullT_len] at hRk hOk ⊢; have kU : u3.heap[bx]? = some (.cells #[.slice av i cv, (.slice p1 (i + 1) q1), (.slice p2 (i + 2) q2), .slice none 0 0, str M] 98) := hFk.blk kA3 (by simpa using hvbx); have dk : u3.cell? ⟨bx, 3, none⟩ = some (.slice none 0 0) := cell_blk kU 3; have fk : u3.frozen? ⟨bx, 3, none⟩ = false := frozen_blk kU 3)
      have kx3 : (u3.setCell ⟨bx, 3, none⟩ (.slice p3 (i + 3) q3)).heap[bx]? = some (.cells #[.slice av i cv, (.slice p1 (i + 1) q1), (.slice p2 (i + 2) q2), (.slice p3 (i + 3) q3), str M] 98) := by rw [set_blk kU]; rfl
      have hv3 : RowAt 9 1 (.slice p3 (i + 3) q3) (fullT (i + 3) M) (u3.setCell ⟨bx, 3, none⟩ (.slice p3 (i + 3) q3)) := hRk.besides kU (by decide) 3 (.slice p3 (i + 3) q3)
      have hlx3 : RowAt 9 1 (.slice av i cv) (fullT i M) (u3.setCell ⟨bx, 3, none⟩ (.slice p3 (i + 3) q3)) := (hkp _ _ hlA3).besides kU (by decide) 3 (.slice p3 (i + 3) q3)
      have hv1_3 : RowAt 9 1 (.slice p1 (i + 1) q1) (fullT (i + 1) M) (u3.setCell ⟨bx, 3, none⟩ (.slice p3 (i + 3) q3)) := (hkp _ _ (hv1.grown gA3)).besides kU (by decide) 3 (.slice p3 (i + 3) q3)
      have hv2_3 : RowAt 9 1 (.slice p2 (i + 2) q2) (fullT (i + 2) M) (u3.setCell ⟨bx, 3, none⟩ (.slice p3 (i + 3) q3)) := (hkp _ _ (hv2.grown gA3)).besides kU (by decide) 3 (.slice p3 (i + 3) q3)
      have hwx3 : (u3.setCell ⟨bx, 3, none⟩ (.slice p3 (i + 3) q3)).heap[wb]? = some (.cells #[a0, a1, a2, vt] 33) := by rw [Below.heap_setCell _ _ _ _ hwx]; exact hFk.blk ((gA3.block _ (lt_of_heap hws) (by simp)).trans hws) (by simpa using hgw)
      have hix3 : RowAt 98 5 vt (trs.map trCells) (u3.setCell ⟨bx, 3, none⟩ (.slice p3 (i + 3) q3)) := hi1.kept (fun q hq => by have hqb : q ≠ bx := fun e => hvx (e ▸ hq); rw [Below.heap_setCell _ _ _ _ hqb, hFk.block q (by have := hi1.lt hq; have := gA3.size; omega) (by simp only [Option.mem_toList]; exact fun z => hgv q z hq), gA3.block q (hi1.lt hq) (by simp)])
      have hFx3 : Fr (Value.slice av i cv).ownBlock.toList w (u3.setCell ⟨bx, 3, none⟩ (.slice p3 (i + 3) q3)) := ((hF.grown gA3 (by simp)).trans hFk).setCell (p := ⟨bx, 3, none⟩) (.inr (by simpa using hs1)) (.slice p3 (i + 3) q3)
      have hon3 : ∀ g, (Value.slice p3 (i + 3) q3).ownBlock = some g → (Value.slice av i cv).ownBlock = some g ∨ w.heap.size ≤ g := fun g hg => (hOk g hg).imp id (fun e => by rw [e]; have := hF.size; have := gA3.size; omega)
      generalize (u3.setCell ⟨bx, 3, none⟩ (.slice p3 (i + 3) q3)) = w5 at kx3 hv3 hlx3 hwx3 hix3 hFx3 hv1_3 hv2_3 ⊢
      clear kx hlx hws hi1 hF gA3 hlA3 kA3 hcA3 hRk hkp hFk hOk kU dk fk hv1 hv2
      rename w5.heap[bx]? = _ => kx
      rename RowAt 9 1 (.slice av i cv) (fullT i M) w5 => hlx
      rename w5.heap[wb]? = _ => hws
      rename RowAt 98 5 vt (trs.map trCells) w5 => hi1
      rename Fr (Value.slice av i cv).ownBlock.toList w w5 => hF
      rename RowAt 9 1 (.slice p1 (i + 1) q1) (fullT (i + 1) M) w5 => hv1
      rename RowAt 9 1 (.slice p2 (i + 2) q2) (fullT (i + 2) M) w5 => hv2
      have hlen := HLEN.out
      obtain ⟨i0, hi0, hz0, hz1, hz2⟩ := info_parts infoTR
      have y0 : w5.cell? ⟨wb, 3, none⟩ = some vt := cell_blk hws 3
      have d0 : w5.cell? ⟨bx, 0, none⟩ = some (.slice av i cv) := cell_blk kx 0
      have d1 : w5.cell? ⟨bx, 1, none⟩ = some (.slice p1 (i + 1) q1) := cell_blk kx 1
      have d2 : w5.cell? ⟨bx, 2, none⟩ = some (.slice p2 (i + 2) q2) := cell_blk kx 2
      have d3 : w5.cell? ⟨bx, 3, none⟩ = some (.slice p3 (i + 3) q3) := cell_blk kx 3
      have d4 : w5.cell? ⟨bx, 4, none⟩ = some (str M) := cell_blk kx 4
      have nwv : vt.ownBlock ≠ some wb := hi1.neBlk hws (by decide)
      have hwb5 : wb < w5.heap.size := lt_of_heap hws
      have hs5 : w.heap.size ≤ w5.heap.size := hF.size
      have hil : (trs.map trCells).length = trs.length := by simp
      have hown5 := hi1.1
      rw [hil] at hown5
      clear hvi
      go_region_law ((refine step_append_lies _ (by rfl) _ _ _ (by rfl) 0 98 i0 _ 5 112 Tryz.underlying31 hi0 hz0 hz1 hz2 rfl (by omega) vt trs.length (trs.map trCells).flatten (by rfl) ((hown5.alloc _).drew) ⟨w5.heap.size, 0, none⟩ 1 1 [.slice av i cv, .slice p1 (i + 1) q1, .slice p2 (i + 2) q2, .slice p3 (i + 3) q3, str M] (by rfl) (by rfl) (World.news_of_block (cs := #[.slice av i cv, .slice p1 (i + 1) q1, .slice p2 (i + 2) q2, .slice p3 (i + 3) q3, str M]) (t := 98) (fr := (0, 0)) (heap_alloc_new w5 _)) (by simp [Value.oneCell']) (by omega) (by unfold maxLen; omega) (by omega) (by simp) (w5.heap.size + 1) (by simp) ?_; intro gg capL w6 hown1 hgrow hat hlt6; have y5 : w6.heap[wb]? = w5.heap[wb]? := (hgrow.block wb (by simp; omega) (Ne.symm nwv)).trans (Below.heap_alloc _ _ _ hwb5); have y4 : w6.cell? ⟨wb, 3, none⟩ = some vt := (World.cell?_of_block (a := ⟨wb, 3, none⟩) y5).trans y0; have f4 : w6.frozen? ⟨wb, 3, none⟩ = false := (World.frozen?_of_block (a := ⟨wb, 3, none⟩) y5).trans (frozen_blk hws 3)))
      all_goals go_end0
      all_goals
        have hgr : w5.grownBy w6 vt.ownBlock := grown_pre hgrow
        have ngw : gg ≠ wb := fun q => by
          rcases hat with hat | hat
          · exact nwv (q ▸ hat)
          · omega
        have E6 : ∀ q, q < w5.heap.size → vt.ownBlock ≠ some q → q ≠ wb → (w6.setCell ⟨wb, 3, none⟩ (.slice (some ⟨gg, 0, none⟩) (trs.length + 1) capL)).heap[q]? = w5.heap[q]? := fun q hq h1 h2 => (Below.heap_setCell _ _ _ _ h2).trans (hgr.block q hq (Ne.symm h1))
        have hrow : RowAt 98 5 (.slice (some ⟨gg, 0, none⟩) (trs.length + 1) capL) ((trs ++ [(⟨.slice av i cv, .slice p1 (i + 1) q1, .slice p2 (i + 2) q2, .slice p3 (i + 3) q3, i, M⟩ : TR)]).map trCells) w6 := by
          refine ⟨by simpa [trCells] using hown1, ?_⟩
          intro y hy
          obtain ⟨r, -, rfl⟩ := List.mem_map.1 hy
          rfl
        refine ⟨rfl, ⟨.slice av i cv, .slice p1 (i + 1) q1, .slice p2 (i + 2) q2, .slice p3 (i + 3) q3, i, M⟩, .slice (some ⟨gg, 0, none⟩) (trs.length + 1) capL, ⟨?_, ?_, ?_, ?_, hxn⟩, ?_, ?_, ?_, ?_, ?_⟩
        · exact hlx.kept (fun q hq => E6 q (hlx.lt hq) (hlx.ne hi1 (by decide) hq) (fun e => hlx.neBlk hws (by decide) (e ▸ hq)))
        · exact hv1.kept (fun q hq => E6 q (hv1.lt hq) (hv1.ne hi1 (by decide) hq) (fun e => hv1.neBlk hws (by decide) (e ▸ hq)))
        · exact hv2.kept (fun q hq => E6 q (hv2.lt hq) (hv2.ne hi1 (by decide) hq) (fun e => hv2.neBlk hws (by decide) (e ▸ hq)))
        · exact hv3.kept (fun q hq => E6 q (hv3.lt hq) (hv3.ne hi1 (by decide) hq) (fun e => hv3.neBlk hws (by decide) (e ▸ hq)))
        · exact (set_blk (y5.trans hws)).trans rfl
        · exact hrow.kept (fun q hq => Below.heap_setCell _ _ _ _ (by cases hq; exact ngw))
        · exact ((hF.mono (cs := wb :: ((Value.slice av i cv).ownBlock.toList ++ vt.ownBlock.toList)) (fun x hx => List.mem_cons_of_mem _ (List.mem_append_left _ hx))).grown hgr (fun k hk => .inl (by simp [hk]))).setCell (p := ⟨wb, 3, none⟩) (.inl (by simp)) _
        · intro k hk
          simp only [TR.own, List.mem_append, Option.mem_toList] at hk
          rcases hk with hk | hk | hk | hk
          · exact .inl hk
          · exact hon1 k hk
          · exact hon2 k hk
          · exact hon3 k hk
        · intro k hk
          simp only [Value.ownBlock, Option.some.injEq] at hk
          subst hk
          rcases hat with hat | hat
          · exact .inl hat
          · right; omega

end Go.Proofs.YtachmkhbbbmioaaGreat

namespace Go.Proofs.YtachmkhbbbmioaaGreat
open Go.RowKit Go.Shelf

def twoCells (x : Pr) : List Value := [.pointer (some ⟨x.cb, 0, none⟩), .pointer (some ⟨x.yb, 0, none⟩)]
def lawOwn (wb : Nat) (vl vi : Value) : List Nat := wb :: (vl.ownBlock.toList ++ vi.ownBlock.toList)

/-- The law's world: its copies and lists; no block is held by two. -/
structure LawAt (base wb : Nat) (vl vi : Value) (prs : List Pr) (irs : List IR) (w : World) : Prop where
  cp : w.heap[wb]? = some (.cells #[vl, .slice none 0 0, vi, .slice none 0 0] 33)
  l : RowAt 39 2 vl (prs.map twoCells) w
  i : RowAt 95 5 vi (irs.map irCells) w
  pr : ∀ (j : Nat) (x : Pr), prs[j]? = some x → PairAt x w
  ir : ∀ (j : Nat) (r : IR), irs[j]? = some r → IntsAt r w
  ow : ∃ ow : Nat → Nat, (∀ k ∈ lawOwn wb vl vi, ow k = 0 ∧ base ≤ k) ∧ (∀ (j : Nat) (x : Pr), prs[j]? = some x → ∀ k ∈ x.own, ow k = 2 * j + 1 ∧ base ≤ k) ∧ (∀ (j : Nat) (r : IR), irs[j]? = some r → ∀ k ∈ r.own, ow k = 2 * j + 2 ∧ base ≤ k)

structure LawLt (H wb : Nat) (vl vi : Value) (prs : List Pr) (irs : List IR) : Prop where
  l : ∀ k ∈ lawOwn wb vl vi, k < H
  pr : ∀ (j : Nat) (x : Pr), prs[j]? = some x → ∀ k ∈ x.own, k < H
  ir : ∀ (j : Nat) (r : IR), irs[j]? = some r → ∀ k ∈ r.own, k < H

theorem LawAt.lts {base wb : Nat} {vl vi : Value} {prs : List Pr} {irs : List IR} {w : World} (h : LawAt base wb vl vi prs irs w) : LawLt w.heap.size wb vl vi prs irs := by
  refine ⟨fun k hk => ?_, fun j x hj k hk => (h.pr j x hj).lt k hk, fun j r hj k hk => (h.ir j r hj).lt k hk⟩
  simp only [lawOwn, List.mem_cons, List.mem_append, Option.mem_toList] at hk
  rcases hk with rfl | hk | hk
  · exact lt_of_heap h.cp
  · exact h.l.lt hk
  · exact h.i.lt hk

theorem LawAt.kept {base wb : Nat} {vl vi : Value} {prs : List Pr} {irs : List IR} {w w' : World} (h : LawAt base wb vl vi prs irs w) (e : ∀ k, k < w.heap.size → w'.heap[k]? = w.heap[k]?) : LawAt base wb vl vi prs irs w' := by
  have hl := h.lts
  exact ⟨(e wb (lt_of_heap h.cp)).trans h.cp, h.l.kept (fun g hg => e g (h.l.lt hg)), h.i.kept (fun g hg => e g (h.i.lt hg)), fun j x hj => (h.pr j x hj).kept (fun k hk => e k (hl.pr j x hj k hk)), fun j r hj => (h.ir j r hj).kept (fun k hk => e k (hl.ir j r hj k hk)), h.ow⟩

theorem LawAt.below {base wb : Nat} {vl vi : Value} {prs : List Pr} {irs : List IR} {w w' : World} (h : LawAt base wb vl vi prs irs w) (g : Below w.heap.size w w') : LawAt base wb vl vi prs irs w' := h.kept (fun k hk => g.block k hk)
theorem LawAt.grown {base wb : Nat} {vl vi : Value} {prs : List Pr} {irs : List IR} {w w' : World} (h : LawAt base wb vl vi prs irs w) (g : w.grownBy w' none) : LawAt base wb vl vi prs irs w' := h.kept (fun k hk => g.block k hk (by simp))

theorem two_set {prs : List Pr} {j : Nat} {x x' : Pr} (hj : prs[j]? = some x) (h1 : x'.cb = x.cb) (h2 : x'.yb = x.yb) : (prs.set j x').map twoCells = prs.map twoCells := by
  apply List.ext_getElem?
  intro i
  rw [List.getElem?_map, List.getElem?_map, List.getElem?_set]
  by_cases q : j = i
  · subst q
    obtain ⟨hl, hx⟩ := List.getElem?_eq_some_iff.1 hj
    simp [hl, hx, twoCells, h1, h2]
  · simp [q]

/-- One pair has been called. -/
theorem LawAt.after {base wb : Nat} {vl vi : Value} {prs : List Pr} {irs : List IR} {w w2 : World} {j : Nat} {x : Pr} (h : LawAt base wb vl vi prs irs w) (hj : prs[j]? = some x) (hA : After x w w2) (hb : base ≤ w.heap.size) :
    ∃ x', LawAt base wb vl vi (prs.set j x') irs w2 ∧ Below base w w2 := by
  obtain ⟨x', hP, h1, h2, hF, hO⟩ := hA
  obtain ⟨ow, o1, o2, o3⟩ := h.ow
  have hl := h.lts
  have hjl := (List.getElem?_eq_some_iff.1 hj).1
  have key : ∀ k, k < w.heap.size → ow k ≠ 2 * j + 1 → w2.heap[k]? = w.heap[k]? := fun k hk hn => hF.block k hk (fun q => hn (o2 j x hj k q).1)
  refine ⟨x', ⟨?_, ?_, ?_, ?_, ?_, fun k => if k < w.heap.size then ow k else 2 * j + 1, ?_, ?_, ?_⟩, ?_⟩
  · exact (key wb (lt_of_heap h.cp) (by rw [(o1 wb (by simp [lawOwn])).1]; omega)).trans h.cp
  · rw [two_set hj h1 h2]
    exact h.l.kept (fun g hg => key g (h.l.lt hg) (by rw [(o1 g (by simp [lawOwn, hg])).1]; omega))
  · exact h.i.kept (fun g hg => key g (h.i.lt hg) (by rw [(o1 g (by simp [lawOwn, hg])).1]; omega))
  · intro i y hi
    rw [List.getElem?_set] at hi
    by_cases q : j = i
    · subst q
      simp [hjl] at hi
      subst hi
      exact hP
    · rw [if_neg q] at hi
      exact (h.pr i y hi).kept (fun k hk => key k (hl.pr i y hi k hk) (by rw [(o2 i y hi k hk).1]; omega))
  · intro i r hi
    exact (h.ir i r hi).kept (fun k hk => key k (hl.ir i r hi k hk) (by rw [(o3 i r hi k hk).1]; omega))
  · intro k hk
    simp only [if_pos (hl.l k hk)]
    exact o1 k hk
  · intro i y hi k hk
    rw [List.getElem?_set] at hi
    by_cases q : j = i
    · subst q
      simp [hjl] at hi
      subst hi
      rcases hO k hk with hk' | hk'
      · simp only [if_pos (hl.pr j x hj k hk')]
        exact o2 j x hj k hk'
      · simp only [if_neg (show ¬ k < w.heap.size by omega)]
        exact ⟨by first | rfl | trivial, by omega⟩
    · rw [if_neg q] at hi
      simp only [if_pos (hl.pr i y hi k hk)]
      exact o2 i y hi k hk
  · intro i r hi k hk
    simp only [if_pos (hl.ir i r hi k hk)]
    exact o3 i r hi k hk
  · exact hF.toBelow hb (fun k hk => (o2 j x hj k hk).2)

/-- A list has been kept. -/
theorem LawAt.keep {base wb H g : Nat} {vl vi vi' : Value} {prs : List Pr} {irs : List IR} {r : IR} {w w' : World} (h : LawAt base wb vl vi prs irs w) (hH : LawLt H wb vl vi prs irs) (hg : H ≤ g) (hbH : base ≤ H) (hHw : H ≤ w.heap.size)
    (hr : IntsAt r w') (hc : w'.heap[wb]? = some (.cells #[vl, .slice none 0 0, vi', .slice none 0 0] 33)) (hrow : RowAt 95 5 vi' ((irs ++ [r]).map irCells) w')
    (hF : Fr (wb :: g :: vi.ownBlock.toList) w w') (h1 : ∀ k ∈ r.own, k = g ∨ w.heap.size ≤ k) (h2 : ∀ k, vi'.ownBlock = some k → vi.ownBlock = some k ∨ w.heap.size ≤ k) : LawAt base wb vl vi' prs (irs ++ [r]) w' ∧ Below base w w' := by
  obtain ⟨ow, o1, o2, o3⟩ := h.ow
  have hvi : ∀ k, vi.ownBlock = some k → ow k = 0 ∧ base ≤ k := fun k hk => o1 k (by simp [lawOwn, hk])
  have key : ∀ k, k < H → ow k ≠ 0 → w'.heap[k]? = w.heap[k]? := fun k hk hn => hF.block k (by omega) (fun q => by
    simp only [List.mem_cons, Option.mem_toList] at q
    rcases q with rfl | rfl | q
    · exact hn (o1 _ (by simp [lawOwn])).1
    · omega
    · exact hn (hvi k q).1)
  have hri : ∀ k ∈ r.own, H ≤ k := fun k hk => by rcases h1 k hk with q | q <;> omega
  have hvt : ∀ k, vi'.ownBlock = some k → ¬ k ∈ r.own := fun k hk q => by
    have hk2 : ∃ c, w'.heap[k]? = some (.cells c 3) := by
      simp only [IR.own, List.mem_append, Option.mem_toList] at q
      rcases q with q | q | q | q
      · exact hr.l.blk q
      · exact hr.a.blk q
      · exact hr.b.blk q
      · exact hr.c.blk q
    obtain ⟨c, hc1⟩ := hk2
    exact hrow.neBlk hc1 (by decide) hk
  refine ⟨⟨hc, ?_, hrow, ?_, ?_, fun k => if k ∈ r.own then 2 * irs.length + 2 else if k < H then ow k else 0, ?_, ?_, ?_⟩, ?_⟩
  · refine h.l.kept (fun b hb => hF.block b (h.l.lt hb) (fun q => ?_))
    simp only [List.mem_cons, Option.mem_toList] at q
    rcases q with rfl | rfl | q
    · exact h.l.neBlk h.cp (by decide) hb
    · have := hH.l b (by simp [lawOwn, hb]); omega
    · exact h.l.ne h.i (by decide) hb q
  · intro j x hj
    exact (h.pr j x hj).kept (fun k hk => key k (hH.pr j x hj k hk) (by rw [(o2 j x hj k hk).1]; omega))
  · intro j q hj
    rw [List.getElem?_append] at hj
    split at hj
    · exact (h.ir j q hj).kept (fun k hk => key k (hH.ir j q hj k hk) (by rw [(o3 j q hj k hk).1]; omega))
    · have : q = r := by
        rename_i hlt
        rcases Nat.eq_zero_or_pos (j - irs.length) with e | e
        · rw [e] at hj; simpa using hj.symm
        · rw [List.getElem?_eq_none (by simp; omega)] at hj; cases hj
      subst this
      exact hr
  · intro k hk
    simp only [lawOwn, List.mem_cons, List.mem_append, Option.mem_toList] at hk
    rcases hk with rfl | hk | hk
    · have hlt := hH.l k (by simp [lawOwn])
      simp only [if_neg (show ¬ k ∈ r.own from fun q => by have := hri k q; omega), if_pos hlt]
      exact o1 k (by simp [lawOwn])
    · have hlt := hH.l k (by simp [lawOwn, hk])
      simp only [if_neg (show ¬ k ∈ r.own from fun q => by have := hri k q; omega), if_pos hlt]
      exact o1 k (by simp [lawOwn, hk])
    · simp only [if_neg (hvt k hk)]
      rcases h2 k hk with q | q
      · have hlt := hH.l k (by simp [lawOwn, q])
        simp only [if_pos hlt]
        exact hvi k q
      · simp only [if_neg (show ¬ k < H by omega)]
        exact ⟨by first | rfl | trivial, by omega⟩
  · intro j x hj k hk
    have hlt := hH.pr j x hj k hk
    simp only [if_neg (show ¬ k ∈ r.own from fun q => by have := hri k q; omega), if_pos hlt]
    exact o2 j x hj k hk
  · intro j q hj k hk
    rw [List.getElem?_append] at hj
    split at hj
    · have hlt := hH.ir j q hj k hk
      simp only [if_neg (show ¬ k ∈ r.own from fun p => by have := hri k p; omega), if_pos hlt]
      exact o3 j q hj k hk
    · have hjr : q = r ∧ j = irs.length := by
        rename_i hlt
        rcases Nat.eq_zero_or_pos (j - irs.length) with e | e
        · rw [e] at hj; exact ⟨by simpa using hj.symm, by omega⟩
        · rw [List.getElem?_eq_none (by simp; omega)] at hj; cases hj
      obtain ⟨rfl, rfl⟩ := hjr
      simp only [if_pos hk]
      exact ⟨by first | rfl | trivial, by have := hri k hk; omega⟩
  · refine hF.toBelow (by omega) (fun k hk => ?_)
    simp only [List.mem_cons, Option.mem_toList] at hk
    rcases hk with rfl | rfl | hk
    · exact (o1 _ (by simp [lawOwn])).2
    · omega
    · exact (hvi k hk).2

/-- A pair has come. -/
theorem LawAt.more {base wb : Nat} {vl vl' vi : Value} {prs : List Pr} {irs : List IR} {x : Pr} {w w' : World} (h : LawAt base wb vl vi prs irs w) (hbw : base ≤ w.heap.size) (hx : PairAt x w') (hxn : ∀ k ∈ x.own, w.heap.size ≤ k)
    (hc : w'.heap[wb]? = some (.cells #[vl', .slice none 0 0, vi, .slice none 0 0] 33)) (hrow : RowAt 39 2 vl' ((prs ++ [x]).map twoCells) w')
    (hF : Fr (wb :: vl.ownBlock.toList) w w') (h2 : ∀ k, vl'.ownBlock = some k → vl.ownBlock = some k ∨ w.heap.size ≤ k ∧ ¬ k ∈ x.own) : LawAt base wb vl' vi (prs ++ [x]) irs w' ∧ Below base w w' := by
  obtain ⟨ow, o1, o2, o3⟩ := h.ow
  have hH := h.lts
  have hvl : ∀ k, vl.ownBlock = some k → ow k = 0 ∧ base ≤ k := fun k hk => o1 k (by simp [lawOwn, hk])
  have key : ∀ k, k < w.heap.size → ow k ≠ 0 → w'.heap[k]? = w.heap[k]? := fun k hk hn => hF.block k hk (fun q => by
    simp only [List.mem_cons, Option.mem_toList] at q
    rcases q with rfl | q
    · exact hn (o1 _ (by simp [lawOwn])).1
    · exact hn (hvl k q).1)
  refine ⟨⟨hc, hrow, ?_, ?_, ?_, fun k => if k ∈ x.own then 2 * prs.length + 1 else if k < w.heap.size then ow k else 0, ?_, ?_, ?_⟩, ?_⟩
  · refine h.i.kept (fun b hb => hF.block b (h.i.lt hb) (fun q => ?_))
    simp only [List.mem_cons, Option.mem_toList] at q
    rcases q with rfl | q
    · exact h.i.neBlk h.cp (by decide) hb
    · exact h.i.ne h.l (by decide) hb q
  · intro j y hj
    rw [List.getElem?_append] at hj
    split at hj
    · exact (h.pr j y hj).kept (fun k hk => key k (hH.pr j y hj k hk) (by rw [(o2 j y hj k hk).1]; omega))
    · have : y = x := by
        rename_i hlt
        rcases Nat.eq_zero_or_pos (j - prs.length) with e | e
        · rw [e] at hj; simpa using hj.symm
        · rw [List.getElem?_eq_none (by simp; omega)] at hj; cases hj
      subst this
      exact hx
  · intro j r hj
    exact (h.ir j r hj).kept (fun k hk => key k (hH.ir j r hj k hk) (by rw [(o3 j r hj k hk).1]; omega))
  · intro k hk
    simp only [lawOwn, List.mem_cons, List.mem_append, Option.mem_toList] at hk
    have old : ∀ k, k < w.heap.size → (ow k = 0 ∧ base ≤ k) → (if k ∈ x.own then 2 * prs.length + 1 else if k < w.heap.size then ow k else 0) = 0 ∧ base ≤ k := fun k hk ho => by
      simp only [if_neg (show ¬ k ∈ x.own from fun q => by have := hxn k q; omega), if_pos hk]
      exact ho
    rcases hk with rfl | hk | hk
    · exact old k (hH.l k (by simp [lawOwn])) (o1 k (by simp [lawOwn]))
    · rcases h2 k hk with q | ⟨q, q2⟩
      · exact old k (hH.l k (by simp [lawOwn, q])) (hvl k q)
      · simp only [if_neg q2, if_neg (show ¬ k < w.heap.size by omega)]
        exact ⟨by first | rfl | trivial, by omega⟩
    · exact old k (hH.l k (by simp [lawOwn, hk])) (o1 k (by simp [lawOwn, hk]))
  · intro j y hj k hk
    rw [List.getElem?_append] at hj
    split at hj
    · have hlt := hH.pr j y hj k hk
      simp only [if_neg (show ¬ k ∈ x.own from fun p => by have := hxn k p; omega), if_pos hlt]
      exact o2 j y hj k hk
    · have hjr : y = x ∧ j = prs.length := by
        rename_i hlt
        rcases Nat.eq_zero_or_pos (j - prs.length) with e | e
        · rw [e] at hj; exact ⟨by simpa using hj.symm, by omega⟩
        · rw [List.getElem?_eq_none (by simp; omega)] at hj; cases hj
      obtain ⟨rfl, rfl⟩ := hjr
      simp only [if_pos hk]
      exact ⟨by first | rfl | trivial, by have := hxn k hk; omega⟩
  · intro j r hj k hk
    have hlt := hH.ir j r hj k hk
    simp only [if_neg (show ¬ k ∈ x.own from fun p => by have := hxn k p; omega), if_pos hlt]
    exact o3 j r hj k hk
  · refine hF.toBelow hbw (fun k hk => ?_)
    simp only [List.mem_cons, Option.mem_toList] at hk
    rcases hk with rfl | hk
    · exact (o1 _ (by simp [lawOwn])).2
    · exact (hvl k hk).2

end Go.Proofs.YtachmkhbbbmioaaGreat

namespace Go.Proofs.YtachmkhbbbmioaaGreat
open Go.RowKit Go.Shelf

theorem infoTwo : (Tryz.prog.info? 39).map (fun i => (i.zero, i.size, i.bytes)) = some (some (.agg #[.pointer none, .pointer none]), 2, 16) := by kernel_rfl

theorem two_len (l : List Pr) : ∀ y ∈ l.map twoCells, y.length = 2 := by
  intro y hy
  obtain ⟨x, -, rfl⟩ := List.mem_map.1 hy
  rfl

theorem two_one (l : List Pr) : ∀ y ∈ l.map twoCells, ∀ c ∈ y, c.oneCell' = true := by
  intro y hy c hc
  obtain ⟨x, -, rfl⟩ := List.mem_map.1 hy
  simp only [twoCells, List.mem_cons, List.not_mem_nil, or_false] at hc
  rcases hc with rfl | rfl <;> rfl

set_option maxRecDepth 100000 in
set_option maxHeartbeats 2000000 in
/-- A copy that stays. -/
theorem begins_in (base wb n s : Nat) (vl vi : Value) (prs : List Pr) (irs : List IR) (w : World) (h : LawAt base wb vl vi prs irs w) (hb : base ≤ w.heap.size) (h1 : 1 ≤ s) (h2 : s ≤ n) (h3 : n ≤ 8) (hlen : prs.length ≤ 1000) :
    Calls Tryz.prog 13 #[.pointer (some ⟨wb, 0, none⟩), .int .i64 n, .int .i64 s, .bool true] w fun e w' => e = .returned (.bool true) ∧ ∃ vl' x, LawAt base wb vl' vi (prs ++ [x]) irs w' ∧ Below base w w' := by
  have hC := hide (fun w => cpNew_any n s h1 h2 h3 w)
  have hR := hide (fun w => refNew_any n s h1 h2 h3 w)
  obtain ⟨al, cl, hvl, hcl⟩ := h.l.value
  rw [List.length_map] at hvl hcl
  subst hvl
  go_enter Tryz.func13, Tryz.ntmps13
  go_wp2_with fail
  refine (hC.out _).mono ?_
  rintro e w1 ⟨cb, sb, ma, mp, lb, mb, rfl, hcp, hg1, hn1⟩
  go_wp2_with fail
  refine (hR.out _).mono ?_
  rintro e w2 ⟨yb, vc, rfl, hrf, hg2, hn2⟩
  have hG : w.grownBy w2 none := grown_trans hg1 hg2
  have hL := h.grown hG
  have hs1 := hg1.size
  obtain ⟨x, hxc, hxy, hP, hxn⟩ : ∃ x : Pr, x.cb = cb ∧ x.yb = yb ∧ PairAt x w2 ∧ ∀ k ∈ x.own, w.heap.size ≤ k := by
    refine ⟨⟨cb, sb, ma, mp, lb, mb, yb, vc, .slice none 0 0, .slice none 0 0, newS n s, [], [], .slice none 0 0, []⟩, rfl, rfl, ⟨hcp.kept (fun k hk => hg2.block k (hcp.lt k hk) (by simp)), hrf, newS_good h1 h2 h3, by simp [newS, sumcl], by simp [newS, sumcl], opsOk_new n s, logAt_new n w2, by simp, wtRows_nil _ _ _, wtOk_new n s⟩, ?_⟩
    intro k hk
    simp only [Pr.own, List.mem_append, List.not_mem_nil, or_false] at hk
    rcases hk with hk | hk
    · simp only [List.mem_cons, List.not_mem_nil, or_false] at hk
      omega
    · have := hn2 k hk; omega
  subst hxc hxy
  clear hcp hrf hn1 hn2 hg1 hg2 hC hR
  have c0 : w2.cell? ⟨wb, 0, none⟩ = some (.slice al prs.length cl) := cell_blk hL.cp 0
  go_upto_region 6 with fail
  have g3 : w2.grownBy (w2.alloc (.cells #[.pointer (some ⟨x.cb, 0, none⟩), .pointer (some ⟨x.yb, 0, none⟩)] 39)) none := grown_alloc (grown_refl _) _
  have hS3 : SrcAt (w2.alloc (.cells #[.pointer (some ⟨x.cb, 0, none⟩), .pointer (some ⟨x.yb, 0, none⟩)] 39)) (.slice (some ⟨w2.heap.size, 0, none⟩) 1 1) ([x].map twoCells) := src_new w2 (twoCells x) _
  have hR3 := hL.l.grown g3
  have hw3 := (g3.block _ (lt_of_heap hL.cp) (by simp)).trans hL.cp
  have nwl : (Value.slice al prs.length cl).ownBlock ≠ some wb := hL.l.neBlk hL.cp (by decide)
  have hwlt : wb < w2.heap.size := lt_of_heap hL.cp
  go_wp2_with (at_builtin; refine wpList_row Tryz.underlying29 infoTwo rfl (by decide) rfl _ _ rfl (.slice al prs.length cl) _ rfl hR3 _ _ rfl hS3 (two_len _) (two_one _) (by unfold maxLen; simp; omega) (by simp; omega) ?_; intro v' w4 hR4 hg4 hat; have k4 := (hg4.block _ (lt_of_heap hw3) (Ne.symm nwl)).trans hw3; have c4 : w4.cell? ⟨wb, 0, none⟩ = some (.slice al prs.length cl) := cell_blk k4 0; have f4 : w4.frozen? ⟨wb, 0, none⟩ = false := frozen_blk k4 0; obtain ⟨a', c', hv', -⟩ := hR4.value; generalize hn3 : (prs.map twoCells ++ [x].map twoCells).length = n3 at hv'; clear hn3; subst hv')
  go_ret
  refine ⟨rfl, .slice a' n3 c', x, h.more hb (hP.kept (fun k hk => ?_)) hxn ((set_blk k4).trans rfl) ?_ ?_ ?_⟩
  · have hk1 := hP.lt k hk
    have hk2 := hxn k hk
    have hk3 : k ≠ wb := by have := lt_of_heap h.cp; omega
    rw [Below.heap_setCell _ _ _ _ hk3, hg4.block k (by simp; omega) (fun q => by have := h.l.lt q.symm; omega)]
    exact g3.block k hk1 (by simp)
  · rw [List.map_append]
    refine hR4.kept (fun q hq => Below.heap_setCell _ _ _ _ (fun e => ?_))
    subst e
    rcases hat with hat | hat
    · exact nwl (hat ▸ hq)
    · rw [hat] at hq
      simp only [Option.some.injEq, World.size_alloc] at hq
      omega
  · exact ((((Fr.refl _ w).grown hG (by simp)).grown g3 (by simp)).grown hg4 (fun k hk => .inl (by simp [hk]))).setCell (p := ⟨wb, 0, none⟩) (.inl (by simp)) _
  · intro k hk
    rcases hat with hat | hat
    · exact .inl (hat ▸ hk)
    · rw [hat] at hk
      simp only [Option.some.injEq, World.size_alloc] at hk
      have := hG.size
      exact .inr ⟨by omega, fun q => by have := hP.lt k q; omega⟩

set_option maxRecDepth 100000 in
set_option maxHeartbeats 2000000 in
/-- New beside the copies. -/
theorem begins_out (wb : Nat) (A B : Int) (w : World) :
    Calls Tryz.prog 13 #[.pointer (some ⟨wb, 0, none⟩), .int .i64 A, .int .i64 B, .bool false] w fun e w' => e = .returned (.bool true) ∧ Below w.heap.size w w' := by
  by_cases hc : newCode A B = 0
  · unfold newCode at hc
    have hb : 1 ≤ A ∧ A ≤ 8 ∧ 1 ≤ B ∧ B ≤ A := by
      split at hc
      · omega
      · split at hc
        · omega
        · omega
    obtain ⟨n, rfl⟩ := Int.eq_ofNat_of_zero_le (show 0 ≤ A by omega)
    obtain ⟨s, rfl⟩ := Int.eq_ofNat_of_zero_le (show 0 ≤ B by omega)
    have hC := hide (fun w => cpNew_any n s (by omega) (by omega) (by omega) w)
    have hR := hide (fun w => refNew_any n s (by omega) (by omega) (by omega) w)
    clear hc
    go_enter Tryz.func13, Tryz.ntmps13
    go_wp2_with fail
    refine (hC.out _).mono ?_
    rintro e w1 ⟨cb, sb, ma, mp, lb, mb, rfl, hcp, hg1, hn1⟩
    clear hcp hn1
    go_wp2_with fail
    refine (hR.out _).mono ?_
    rintro e w2 ⟨yb, vc, rfl, hrf, hg2, hn2⟩
    clear hrf hn2
    go_wp2_with fail
    go_ret
    exact ⟨rfl, (Below.refl _ w).grown (grown_trans hg1 hg2) (Nat.le_refl _) (by simp)⟩
  · have hC := hide (fun w => cpNew_bad A B hc w)
    have hR := hide (fun w => refNew_bad A B hc w)
    generalize newCode A B = c at hC hR hc
    go_enter Tryz.func13, Tryz.ntmps13
    go_wp2_with fail
    refine (hC.out _).mono ?_
    rintro e w1 ⟨rfl, hg1⟩
    go_wp2_with fail
    refine (hR.out _).mono ?_
    rintro e w2 ⟨rfl, hg2⟩
    have hne : (c != c) = false := by simp
    go_wp2_with fail
    go_ret
    exact ⟨rfl, (Below.refl _ w).grown (grown_trans hg1 hg2) (Nat.le_refl _) (by simp)⟩

end Go.Proofs.YtachmkhbbbmioaaGreat

namespace Go.Proofs.YtachmkhbbbmioaaGreat
open Go.RowKit Go.Shelf

/-- What the law's world holds. -/
structure LS where
  vl : Value
  va : Value
  vi : Value
  vt : Value
  prs : List Pr
  air : List (List UInt8)
  irs : List IR
  trs : List TR

def LS.own (L : LS) (wb : Nat) : List Nat := wb :: (L.vl.ownBlock.toList ++ (L.va.ownBlock.toList ++ (L.vi.ownBlock.toList ++ L.vt.ownBlock.toList)))

/-- The law's world: its copies, the air, its lists; no block is held by two. -/
structure WAt (base wb : Nat) (L : LS) (w : World) : Prop where
  cp : w.heap[wb]? = some (.cells #[L.vl, L.va, L.vi, L.vt] 33)
  l : RowAt 39 2 L.vl (L.prs.map twoCells) w
  ar : RowAt 9 1 L.va (strRow L.air) w
  i : RowAt 95 5 L.vi (L.irs.map irCells) w
  t : RowAt 98 5 L.vt (L.trs.map trCells) w
  pr : ∀ (j : Nat) (x : Pr), L.prs[j]? = some x → PairAt x w
  ir : ∀ (j : Nat) (r : IR), L.irs[j]? = some r → IntsAt r w
  tr : ∀ (j : Nat) (r : TR), L.trs[j]? = some r → TextsAt r w
  ow : ∃ ow : Nat → Nat, (∀ k ∈ L.own wb, ow k = 0 ∧ base ≤ k) ∧ (∀ (j : Nat) (x : Pr), L.prs[j]? = some x → ∀ k ∈ x.own, ow k = 3 * j + 1 ∧ base ≤ k) ∧ (∀ (j : Nat) (r : IR), L.irs[j]? = some r → ∀ k ∈ r.own, ow k = 3 * j + 2 ∧ base ≤ k) ∧ (∀ (j : Nat) (r : TR), L.trs[j]? = some r → ∀ k ∈ r.own, ow k = 3 * j + 3 ∧ base ≤ k)

structure WLt (H wb : Nat) (L : LS) : Prop where
  l : ∀ k ∈ L.own wb, k < H
  pr : ∀ (j : Nat) (x : Pr), L.prs[j]? = some x → ∀ k ∈ x.own, k < H
  ir : ∀ (j : Nat) (r : IR), L.irs[j]? = some r → ∀ k ∈ r.own, k < H
  tr : ∀ (j : Nat) (r : TR), L.trs[j]? = some r → ∀ k ∈ r.own, k < H

theorem WAt.lts {base wb : Nat} {L : LS} {w : World} (h : WAt base wb L w) : WLt w.heap.size wb L := by
  refine ⟨fun k hk => ?_, fun j x hj k hk => (h.pr j x hj).lt k hk, fun j r hj k hk => (h.ir j r hj).lt k hk, fun j r hj k hk => (h.tr j r hj).lt k hk⟩
  simp only [LS.own, List.mem_cons, List.mem_append, Option.mem_toList] at hk
  rcases hk with rfl | hk | hk | hk | hk
  · exact lt_of_heap h.cp
  · exact h.l.lt hk
  · exact h.ar.lt hk
  · exact h.i.lt hk
  · exact h.t.lt hk

theorem WAt.kept {base wb : Nat} {L : LS} {w w' : World} (h : WAt base wb L w) (e : ∀ k, k < w.heap.size → w'.heap[k]? = w.heap[k]?) : WAt base wb L w' := by
  have hl := h.lts
  exact ⟨(e wb (lt_of_heap h.cp)).trans h.cp, h.l.kept (fun g hg => e g (h.l.lt hg)), h.ar.kept (fun g hg => e g (h.ar.lt hg)), h.i.kept (fun g hg => e g (h.i.lt hg)), h.t.kept (fun g hg => e g (h.t.lt hg)), fun j x hj => (h.pr j x hj).kept (fun k hk => e k (hl.pr j x hj k hk)), fun j r hj => (h.ir j r hj).kept (fun k hk => e k (hl.ir j r hj k hk)), fun j r hj => (h.tr j r hj).kept (fun k hk => e k (hl.tr j r hj k hk)), h.ow⟩

theorem WAt.below {base wb : Nat} {L : LS} {w w' : World} (h : WAt base wb L w) (g : Below w.heap.size w w') : WAt base wb L w' := h.kept (fun k hk => g.block k hk)
theorem WAt.grown {base wb : Nat} {L : LS} {w w' : World} (h : WAt base wb L w) (g : w.grownBy w' none) : WAt base wb L w' := h.kept (fun k hk => g.block k hk (by simp))

/-- One pair has been called. -/
theorem WAt.after {base wb : Nat} {L : LS} {w w2 : World} {j : Nat} {x : Pr} (h : WAt base wb L w) (hj : L.prs[j]? = some x) (hb : base ≤ w.heap.size) {x' : Pr} (hP : PairAt x' w2) (h1 : x'.cb = x.cb) (h2 : x'.yb = x.yb) (hF : Fr x.own w w2) (hO : OwnFrom x.own x'.own w.heap.size) :
    WAt base wb { L with prs := L.prs.set j x' } w2 ∧ Below base w w2 := by
  obtain ⟨ow, o1, o2, o3, o4⟩ := h.ow
  have hl := h.lts
  have hjl := (List.getElem?_eq_some_iff.1 hj).1
  have key : ∀ k, k < w.heap.size → ow k ≠ 3 * j + 1 → w2.heap[k]? = w.heap[k]? := fun k hk hn => hF.block k hk (fun q => hn (o2 j x hj k q).1)
  have k0 : ∀ k ∈ L.own wb, w2.heap[k]? = w.heap[k]? := fun k hk => key k (hl.l k hk) (by rw [(o1 k hk).1]; omega)
  refine ⟨⟨?_, ?_, ?_, ?_, ?_, ?_, ?_, ?_, fun k => if k < w.heap.size then ow k else 3 * j + 1, ?_, ?_, ?_, ?_⟩, ?_⟩
  · exact (k0 wb (by simp [LS.own])).trans h.cp
  · show RowAt 39 2 L.vl ((L.prs.set j x').map twoCells) w2
    rw [two_set hj h1 h2]
    exact h.l.kept (fun g hg => k0 g (by simp [LS.own, hg]))
  · exact h.ar.kept (fun g hg => k0 g (by simp [LS.own, hg]))
  · exact h.i.kept (fun g hg => k0 g (by simp [LS.own, hg]))
  · exact h.t.kept (fun g hg => k0 g (by simp [LS.own, hg]))
  · intro i y hi
    have hi' : (L.prs.set j x')[i]? = some y := hi
    rw [List.getElem?_set] at hi'
    by_cases q : j = i
    · subst q
      simp [hjl] at hi'
      subst hi'
      exact hP
    · rw [if_neg q] at hi'
      exact (h.pr i y hi').kept (fun k hk => key k (hl.pr i y hi' k hk) (by rw [(o2 i y hi' k hk).1]; omega))
  · intro i r hi
    exact (h.ir i r hi).kept (fun k hk => key k (hl.ir i r hi k hk) (by rw [(o3 i r hi k hk).1]; omega))
  · intro i r hi
    exact (h.tr i r hi).kept (fun k hk => key k (hl.tr i r hi k hk) (by rw [(o4 i r hi k hk).1]; omega))
  · intro k hk
    simp only [if_pos (hl.l k hk)]
    exact o1 k hk
  · intro i y hi k hk
    have hi' : (L.prs.set j x')[i]? = some y := hi
    rw [List.getElem?_set] at hi'
    by_cases q : j = i
    · subst q
      simp [hjl] at hi'
      subst hi'
      rcases hO k hk with hk' | hk'
      · simp only [if_pos (hl.pr j x hj k hk')]
        exact o2 j x hj k hk'
      · simp only [if_neg (show ¬ k < w.heap.size by omega)]
        exact ⟨by first | rfl | trivial, by omega⟩
    · rw [if_neg q] at hi'
      simp only [if_pos (hl.pr i y hi' k hk)]
      exact o2 i y hi' k hk
  · intro i r hi k hk
    simp only [if_pos (hl.ir i r hi k hk)]
    exact o3 i r hi k hk
  · intro i r hi k hk
    simp only [if_pos (hl.tr i r hi k hk)]
    exact o4 i r hi k hk
  · exact hF.toBelow hb (fun k hk => (o2 j x hj k hk).2)

theorem set_self {prs : List Pr} {j : Nat} {x : Pr} (hj : prs[j]? = some x) : prs.set j x = prs := by
  obtain ⟨hl, hx⟩ := List.getElem?_eq_some_iff.1 hj
  rw [← hx]; exact List.set_getElem_self hl

theorem WAt.same {base wb : Nat} {L : LS} {w w2 : World} {j : Nat} {x : Pr} (h : WAt base wb L w) (hj : L.prs[j]? = some x) (hb : base ≤ w.heap.size) (hP : PairAt x w2) (hF : Fr x.own w w2) : WAt base wb L w2 ∧ Below base w w2 := by
  have := h.after hj hb hP rfl rfl hF (fun k hk => .inl hk)
  rw [set_self hj] at this
  exact this

/-- Something of the law's own has turned, and one thing more may have come. -/
theorem WAt.law {base wb H : Nat} {L L' : LS} {w w' : World} (h : WAt base wb L w) (hH : WLt H wb L) (hbH : base ≤ H) (hHw : H ≤ w.heap.size) (newO : List Nat) (cls : Nat) (hn : ∀ k ∈ newO, H ≤ k)
    (hcp : w'.heap[wb]? = some (.cells #[L'.vl, L'.va, L'.vi, L'.vt] 33)) (hl : RowAt 39 2 L'.vl (L'.prs.map twoCells) w') (har : RowAt 9 1 L'.va (strRow L'.air) w') (hi : RowAt 95 5 L'.vi (L'.irs.map irCells) w') (ht : RowAt 98 5 L'.vt (L'.trs.map trCells) w')
    (hown : ∀ k ∈ L'.own wb, k ∈ L.own wb ∨ (H ≤ k ∧ k ∉ newO))
    (hpr : ∀ (j : Nat) (x : Pr), L'.prs[j]? = some x → L.prs[j]? = some x ∨ (PairAt x w' ∧ x.own = newO ∧ cls = 3 * j + 1))
    (hir : ∀ (j : Nat) (r : IR), L'.irs[j]? = some r → L.irs[j]? = some r ∨ (IntsAt r w' ∧ r.own = newO ∧ cls = 3 * j + 2))
    (htr : ∀ (j : Nat) (r : TR), L'.trs[j]? = some r → L.trs[j]? = some r ∨ (TextsAt r w' ∧ r.own = newO ∧ cls = 3 * j + 3))
    {bs : List Nat} (hF : Fr bs w w') (hbs : ∀ k ∈ bs, k ∈ L.own wb ∨ H ≤ k) : WAt base wb L' w' ∧ Below base w w' := by
  obtain ⟨ow, o1, o2, o3, o4⟩ := h.ow
  have key : ∀ k, k < H → ow k ≠ 0 → w'.heap[k]? = w.heap[k]? := fun k hk hn => hF.block k (by omega) (fun q => by
    rcases hbs k q with q | q
    · exact hn (o1 k q).1
    · omega)
  have old : ∀ k c, k < H → (ow k = c ∧ base ≤ k) → (if k ∈ newO then cls else if k < H then ow k else 0) = c ∧ base ≤ k := fun k c hk ho => by
    simp only [if_neg (show ¬ k ∈ newO from fun q => by have := hn k q; omega), if_pos hk]
    exact ho
  refine ⟨⟨hcp, hl, har, hi, ht, ?_, ?_, ?_, fun k => if k ∈ newO then cls else if k < H then ow k else 0, ?_, ?_, ?_, ?_⟩, ?_⟩
  · intro j x hj
    rcases hpr j x hj with hj | ⟨hx, -, -⟩
    · exact (h.pr j x hj).kept (fun k hk => key k (hH.pr j x hj k hk) (by rw [(o2 j x hj k hk).1]; omega))
    · exact hx
  · intro j x hj
    rcases hir j x hj with hj | ⟨hx, -, -⟩
    · exact (h.ir j x hj).kept (fun k hk => key k (hH.ir j x hj k hk) (by rw [(o3 j x hj k hk).1]; omega))
    · exact hx
  · intro j x hj
    rcases htr j x hj with hj | ⟨hx, -, -⟩
    · exact (h.tr j x hj).kept (fun k hk => key k (hH.tr j x hj k hk) (by rw [(o4 j x hj k hk).1]; omega))
    · exact hx
  · intro k hk
    rcases hown k hk with hk | ⟨h1, h2⟩
    · exact old k 0 (hH.l k hk) (o1 k hk)
    · simp only [if_neg h2, if_neg (show ¬ k < H by omega)]
      exact ⟨by first | rfl | trivial, by omega⟩
  · intro j x hj k hk
    rcases hpr j x hj with hj | ⟨-, hx, hc⟩
    · exact old k _ (hH.pr j x hj k hk) (o2 j x hj k hk)
    · rw [hx] at hk
      simp only [if_pos hk]
      exact ⟨hc, by have := hn k hk; omega⟩
  · intro j x hj k hk
    rcases hir j x hj with hj | ⟨-, hx, hc⟩
    · exact old k _ (hH.ir j x hj k hk) (o3 j x hj k hk)
    · rw [hx] at hk
      simp only [if_pos hk]
      exact ⟨hc, by have := hn k hk; omega⟩
  · intro j x hj k hk
    rcases htr j x hj with hj | ⟨-, hx, hc⟩
    · exact old k _ (hH.tr j x hj k hk) (o4 j x hj k hk)
    · rw [hx] at hk
      simp only [if_pos hk]
      exact ⟨hc, by have := hn k hk; omega⟩
  · refine hF.toBelow (by omega) (fun k hk => ?_)
    rcases hbs k hk with q | q
    · exact (o1 k q).2
    · omega

theorem snoc_at {α : Type} {l : List α} {x y : α} {j : Nat} (h : (l ++ [x])[j]? = some y) : l[j]? = some y ∨ (y = x ∧ j = l.length) := by
  rw [List.getElem?_append] at h
  split at h
  · exact .inl h
  · rename_i hlt
    rcases Nat.eq_zero_or_pos (j - l.length) with e | e
    · rw [e] at h; exact .inr ⟨by simpa using h.symm, by omega⟩
    · rw [List.getElem?_eq_none (by simp; omega)] at h; cases h

/-- A list of numbers has been kept. -/
theorem WAt.keepI {base wb H g : Nat} {L : LS} {vi' : Value} {r : IR} {w w' : World} (h : WAt base wb L w) (hH : WLt H wb L) (hg : H ≤ g) (hbH : base ≤ H) (hHw : H ≤ w.heap.size)
    (hr : IntsAt r w') (hc : w'.heap[wb]? = some (.cells #[L.vl, L.va, vi', L.vt] 33)) (hrow : RowAt 95 5 vi' ((L.irs ++ [r]).map irCells) w')
    (hF : Fr (wb :: g :: L.vi.ownBlock.toList) w w') (h1 : ∀ k ∈ r.own, k = g ∨ w.heap.size ≤ k) (h2 : ∀ k, vi'.ownBlock = some k → L.vi.ownBlock = some k ∨ w.heap.size ≤ k) : WAt base wb { L with vi := vi', irs := L.irs ++ [r] } w' ∧ Below base w w' := by
  have nb : ∀ {e : TypeId} {k : Nat} {u : Value} {xs : List (List Value)}, RowAt e k u xs w → e ≠ 33 → e ≠ 95 → (∀ b, u.ownBlock = some b → b < H) → RowAt e k u xs w' := by
    intro e k u xs hu n1 n2 hlt
    refine hu.kept (fun b hb => hF.block b (hu.lt hb) (fun q => ?_))
    simp only [List.mem_cons, Option.mem_toList] at q
    rcases q with rfl | rfl | q
    · exact hu.neBlk h.cp n1 hb
    · have := hlt b hb; omega
    · exact hu.ne h.i n2 hb q
  refine h.law (L' := { L with vi := vi', irs := L.irs ++ [r] }) hH hbH hHw r.own (3 * L.irs.length + 2) (fun k hk => by rcases h1 k hk with q | q <;> omega) hc
    (nb h.l (by decide) (by decide) (fun b hb => hH.l b (by simp [LS.own, hb]))) (nb h.ar (by decide) (by decide) (fun b hb => hH.l b (by simp [LS.own, hb]))) hrow (nb h.t (by decide) (by decide) (fun b hb => hH.l b (by simp [LS.own, hb])))
    (fun k hk => ?_) (fun j x hj => .inl hj) (fun j x hj => ?_) (fun j x hj => .inl hj) hF (fun k hk => ?_)
  · simp only [LS.own, List.mem_cons, List.mem_append, Option.mem_toList] at hk
    rcases hk with hk | hk | hk | hk | hk
    · exact .inl (by simp [LS.own, hk])
    · exact .inl (by simp [LS.own, hk])
    · exact .inl (by simp [LS.own, hk])
    · rcases h2 k hk with q | q
      · exact .inl (by simp [LS.own, q])
      · refine .inr ⟨by omega, fun z => ?_⟩
        have hz : ∃ c, w'.heap[k]? = some (.cells c 3) := by
          simp only [IR.own, List.mem_append, Option.mem_toList] at z
          rcases z with z | z | z | z
          · exact hr.l.blk z
          · exact hr.a.blk z
          · exact hr.b.blk z
          · exact hr.c.blk z
        obtain ⟨c, hz⟩ := hz
        exact hrow.neBlk hz (by decide) hk
    · exact .inl (by simp [LS.own, hk])
  · rcases snoc_at hj with hj | ⟨rfl, rfl⟩
    · exact .inl hj
    · exact .inr ⟨hr, rfl, rfl⟩
  · simp only [List.mem_cons, Option.mem_toList] at hk
    rcases hk with rfl | rfl | hk
    · exact .inl (by simp [LS.own])
    · exact .inr hg
    · exact .inl (by simp [LS.own, hk])

/-- A list of texts has been kept. -/
theorem WAt.keepT {base wb H : Nat} {L : LS} {v vt' : Value} {r : TR} {w w' : World} (h : WAt base wb L w) (hH : WLt H wb L) (hg : ∀ g, v.ownBlock = some g → H ≤ g) (hbH : base ≤ H) (hHw : H ≤ w.heap.size)
    (hr : TextsAt r w') (hc : w'.heap[wb]? = some (.cells #[L.vl, L.va, L.vi, vt'] 33)) (hrow : RowAt 98 5 vt' ((L.trs ++ [r]).map trCells) w')
    (hF : Fr (wb :: (v.ownBlock.toList ++ L.vt.ownBlock.toList)) w w') (h1 : ∀ k ∈ r.own, v.ownBlock = some k ∨ w.heap.size ≤ k) (h2 : ∀ k, vt'.ownBlock = some k → L.vt.ownBlock = some k ∨ w.heap.size ≤ k) : WAt base wb { L with vt := vt', trs := L.trs ++ [r] } w' ∧ Below base w w' := by
  have nb : ∀ {e : TypeId} {k : Nat} {u : Value} {xs : List (List Value)}, RowAt e k u xs w → e ≠ 33 → e ≠ 98 → (∀ b, u.ownBlock = some b → b < H) → RowAt e k u xs w' := by
    intro e k u xs hu n1 n2 hlt
    refine hu.kept (fun b hb => hF.block b (hu.lt hb) (fun q => ?_))
    simp only [List.mem_cons, List.mem_append, Option.mem_toList] at q
    rcases q with rfl | q | q
    · exact hu.neBlk h.cp n1 hb
    · have := hlt b hb; have := hg b q; omega
    · exact hu.ne h.t n2 hb q
  refine h.law (L' := { L with vt := vt', trs := L.trs ++ [r] }) hH hbH hHw r.own (3 * L.trs.length + 3) (fun k hk => by rcases h1 k hk with q | q; exact hg k q; omega) hc
    (nb h.l (by decide) (by decide) (fun b hb => hH.l b (by simp [LS.own, hb]))) (nb h.ar (by decide) (by decide) (fun b hb => hH.l b (by simp [LS.own, hb]))) (nb h.i (by decide) (by decide) (fun b hb => hH.l b (by simp [LS.own, hb]))) hrow
    (fun k hk => ?_) (fun j x hj => .inl hj) (fun j x hj => .inl hj) (fun j x hj => ?_) hF (fun k hk => ?_)
  · simp only [LS.own, List.mem_cons, List.mem_append, Option.mem_toList] at hk
    rcases hk with hk | hk | hk | hk | hk
    · exact .inl (by simp [LS.own, hk])
    · exact .inl (by simp [LS.own, hk])
    · exact .inl (by simp [LS.own, hk])
    · exact .inl (by simp [LS.own, hk])
    · rcases h2 k hk with q | q
      · exact .inl (by simp [LS.own, q])
      · refine .inr ⟨by omega, fun z => ?_⟩
        obtain ⟨c, hz⟩ := hr.blk k z
        exact hrow.neBlk hz (by decide) hk
  · rcases snoc_at hj with hj | ⟨rfl, rfl⟩
    · exact .inl hj
    · exact .inr ⟨hr, rfl, rfl⟩
  · simp only [List.mem_cons, List.mem_append, Option.mem_toList] at hk
    rcases hk with rfl | hk | hk
    · exact .inl (by simp [LS.own])
    · exact .inr (hg k hk)
    · exact .inl (by simp [LS.own, hk])

/-- Something more lies in the air. -/
theorem WAt.aired {base wb : Nat} {L : LS} {va' : Value} {air' : List (List UInt8)} {w w' : World} (h : WAt base wb L w) (hb : base ≤ w.heap.size)
    (hc : w'.heap[wb]? = some (.cells #[L.vl, va', L.vi, L.vt] 33)) (hrow : RowAt 9 1 va' (strRow air') w')
    (hF : Fr (wb :: L.va.ownBlock.toList) w w') (h2 : ∀ k, va'.ownBlock = some k → L.va.ownBlock = some k ∨ w.heap.size ≤ k) : WAt base wb { L with va := va', air := air' } w' ∧ Below base w w' := by
  have hH := h.lts
  have nb : ∀ {e : TypeId} {k : Nat} {u : Value} {xs : List (List Value)}, RowAt e k u xs w → e ≠ 33 → e ≠ 9 → RowAt e k u xs w' := by
    intro e k u xs hu n1 n2
    refine hu.kept (fun b hb => hF.block b (hu.lt hb) (fun q => ?_))
    simp only [List.mem_cons, Option.mem_toList] at q
    rcases q with rfl | q
    · exact hu.neBlk h.cp n1 hb
    · exact hu.ne h.ar n2 hb q
  refine h.law (L' := { L with va := va', air := air' }) hH hb (Nat.le_refl _) [] 1 (by simp) hc (nb h.l (by decide) (by decide)) hrow (nb h.i (by decide) (by decide)) (nb h.t (by decide) (by decide))
    (fun k hk => ?_) (fun j x hj => .inl hj) (fun j x hj => .inl hj) (fun j x hj => .inl hj) hF (fun k hk => ?_)
  · simp only [LS.own, List.mem_cons, List.mem_append, Option.mem_toList] at hk
    rcases hk with hk | hk | hk | hk | hk
    · exact .inl (by simp [LS.own, hk])
    · exact .inl (by simp [LS.own, hk])
    · rcases h2 k hk with q | q
      · exact .inl (by simp [LS.own, q])
      · exact .inr ⟨q, by simp⟩
    · exact .inl (by simp [LS.own, hk])
    · exact .inl (by simp [LS.own, hk])
  · simp only [List.mem_cons, Option.mem_toList] at hk
    rcases hk with rfl | hk
    · exact .inl (by simp [LS.own])
    · exact .inl (by simp [LS.own, hk])

/-- A pair has come. -/
theorem WAt.more {base wb : Nat} {L : LS} {vl' : Value} {x : Pr} {w w' : World} (h : WAt base wb L w) (hb : base ≤ w.heap.size) (hx : PairAt x w') (hxn : ∀ k ∈ x.own, w.heap.size ≤ k)
    (hc : w'.heap[wb]? = some (.cells #[vl', L.va, L.vi, L.vt] 33)) (hrow : RowAt 39 2 vl' ((L.prs ++ [x]).map twoCells) w')
    (hF : Fr (wb :: L.vl.ownBlock.toList) w w') (h2 : ∀ k, vl'.ownBlock = some k → L.vl.ownBlock = some k ∨ w.heap.size ≤ k ∧ ¬ k ∈ x.own) : WAt base wb { L with vl := vl', prs := L.prs ++ [x] } w' ∧ Below base w w' := by
  have hH := h.lts
  have nb : ∀ {e : TypeId} {k : Nat} {u : Value} {xs : List (List Value)}, RowAt e k u xs w → e ≠ 33 → e ≠ 39 → RowAt e k u xs w' := by
    intro e k u xs hu n1 n2
    refine hu.kept (fun b hb => hF.block b (hu.lt hb) (fun q => ?_))
    simp only [List.mem_cons, Option.mem_toList] at q
    rcases q with rfl | q
    · exact hu.neBlk h.cp n1 hb
    · exact hu.ne h.l n2 hb q
  refine h.law (L' := { L with vl := vl', prs := L.prs ++ [x] }) hH hb (Nat.le_refl _) x.own (3 * L.prs.length + 1) hxn hc hrow (nb h.ar (by decide) (by decide)) (nb h.i (by decide) (by decide)) (nb h.t (by decide) (by decide))
    (fun k hk => ?_) (fun j y hj => ?_) (fun j x hj => .inl hj) (fun j x hj => .inl hj) hF (fun k hk => ?_)
  · simp only [LS.own, List.mem_cons, List.mem_append, Option.mem_toList] at hk
    rcases hk with hk | hk | hk | hk | hk
    · exact .inl (by simp [LS.own, hk])
    · rcases h2 k hk with q | ⟨q, q2⟩
      · exact .inl (by simp [LS.own, q])
      · exact .inr ⟨q, q2⟩
    · exact .inl (by simp [LS.own, hk])
    · exact .inl (by simp [LS.own, hk])
    · exact .inl (by simp [LS.own, hk])
  · rcases snoc_at hj with hj | ⟨rfl, rfl⟩
    · exact .inl hj
    · exact .inr ⟨hx, rfl, rfl⟩
  · simp only [List.mem_cons, Option.mem_toList] at hk
    rcases hk with rfl | hk
    · exact .inl (by simp [LS.own])
    · exact .inl (by simp [LS.own, hk])

end Go.Proofs.YtachmkhbbbmioaaGreat

namespace Go.Proofs.YtachmkhbbbmioaaGreat
open Go.RowKit Go.Shelf

/-- Which of n things a raw number speaks of. -/
def pk (c : Int) (n : Nat) : Nat := (if c < 0 then (-(c + 1)).toNat else c.toNat) % n

theorem pk_lt (c : Int) {n : Nat} (h : 0 < n) : pk c n < n := Nat.mod_lt _ h

set_option maxHeartbeats 400000 in
theorem pickL (c : Int) (n : Nat) (hn : 0 < n) (hn2 : n ≤ 1000000000000) (h1 : -9223372036854775808 ≤ c) (h2 : c ≤ 9223372036854775807) (w : World) :
    Calls Tryz.prog 12 #[.int .i64 c, .int .i64 n] w fun e w' => e = .returned (.int .i64 (pk c n)) ∧ w' = w := by
  have hz : ¬ (n : Int) = 0 := by omega
  by_cases hc : c < 0
  · go_enter Tryz.func12, Tryz.ntmps12
    go_wp2
    go_ret
    refine ⟨?_, rfl⟩
    show Ending.returned (.int .i64 (-((c + 1).tmod ↑n))) = _
    have e : -((c + 1).tmod ↑n) = ((pk c n : Nat) : Int) := by
      unfold pk
      rw [if_pos hc]
      generalize hk : (-(c + 1)).toNat = k
      have e2 : c + 1 = -(k : Int) := by omega
      rw [e2, Int.neg_tmod, Int.neg_neg, Int.ofNat_tmod]
    rw [e]
  · go_enter Tryz.func12, Tryz.ntmps12
    go_wp2
    go_ret
    refine ⟨?_, rfl⟩
    show Ending.returned (.int .i64 (c % ↑n)) = _
    have e : c % ↑n = ((pk c n : Nat) : Int) := by
      unfold pk
      rw [if_neg (by omega)]
      obtain ⟨k, rfl⟩ := Int.eq_ofNat_of_zero_le (show 0 ≤ c by omega)
      simp
    rw [e]


set_option maxRecDepth 100000 in
set_option maxHeartbeats 2000000 in
/-- Every list still reads as its owner wrote it. -/
theorem looks_any (base wb : Nat) (vl vi : Value) (prs : List Pr) (irs : List IR) (w : World) (h : LawAt base wb vl vi prs irs w) (hlen : irs.length ≤ 2000000) :
    Calls Tryz.prog 17 #[.pointer (some ⟨wb, 0, none⟩)] w fun e w' => e = .returned (.bool true) ∧ Below w.heap.size w w' := by
  obtain ⟨ai, ci, hvi, hci⟩ := h.i.value
  rw [List.length_map] at hvi hci
  go_enter Tryz.func17, Tryz.ntmps17
  go_wp2_with fail
  go_loopg [3] irs.length (fun gk s3 wr => ∃ (i : Nat), s3 = .int .i64 i ∧ i ≤ irs.length ∧ gk = irs.length - i ∧ Below w.heap.size w wr)
  case atStart => exact ⟨0, rfl, by omega, rfl, Below.refl _ _⟩
  case round =>
    obtain ⟨i, rfl, hil, hgk, hB⟩ := hrel
    have h1 := h.below hB
    have c2 : wr.cell? ⟨wb, 2, none⟩ = some vi := cell_blk h1.cp 2
    have c3 : wr.cell? ⟨wb, 3, none⟩ = some (.slice none 0 0) := cell_blk h1.cp 3
    rw [hvi] at c2
    by_cases hlt : i < irs.length
    · have hli : (i : Int) < (irs.length : Int) := by omega
      have hx : irs[i]? = some irs[i] := by simp [hlt]
      generalize irs[i] = r at hx
      obtain ⟨gi, cap, cur, hv, -, hb, hcell⟩ := h1.i.cell (i := i) (x := irCells r) (by simp [hx])
      rw [List.length_map] at hv
      rw [hvi] at hv
      cases hv
      have k0 : wr.cell? ⟨gi, i * 5, none⟩ = some r.l := (cell_blk hb _).trans (hcell 0 _ rfl)
      have k1 : wr.cell? ⟨gi, i * 5 + 1, none⟩ = some r.a := (cell_blk hb _).trans (hcell 1 _ rfl)
      have k2 : wr.cell? ⟨gi, i * 5 + 2, none⟩ = some r.b := (cell_blk hb _).trans (hcell 2 _ rfl)
      have k3 : wr.cell? ⟨gi, i * 5 + 3, none⟩ = some r.c := (cell_blk hb _).trans (hcell 3 _ rfl)
      have k4 : wr.cell? ⟨gi, i * 5 + 4, none⟩ = some (.int .i64 r.m) := (cell_blk hb _).trans (hcell 4 _ rfl)
      have hI := h1.ir i r hx
      obtain ⟨rl, ra, rb, rc, rn, rm⟩ := r
      obtain ⟨al, cl, e1, -⟩ := hI.l.value
      obtain ⟨aa, ca, e2, -⟩ := hI.a.value
      obtain ⟨ab, cb, e3, -⟩ := hI.b.value
      obtain ⟨ac, cc, e4, -⟩ := hI.c.value
      simp only at e1 e2 e3 e4 k0 k1 k2 k3 k4
      rw [fullRow_len] at e1 e2 e3 e4
      subst e1 e2 e3 e4
      have hn8 := hI.n8
      simp only at hn8
      have g2 : wr.grownBy (wr.alloc (.cells #[.slice al rn cl, .slice aa (rn + 1) ca, .slice ab (rn + 2) cb, .slice ac (rn + 3) cc, .int .i64 rm] 95)) none := grown_alloc (grown_refl _) _
      have kx : (wr.alloc (.cells #[.slice al rn cl, .slice aa (rn + 1) ca, .slice ab (rn + 2) cb, .slice ac (rn + 3) cc, .int .i64 rm] 95)).heap[wr.heap.size]? = some (.cells #[.slice al rn cl, .slice aa (rn + 1) ca, .slice ab (rn + 2) cb, .slice ac (rn + 3) cc, .int .i64 rm] 95) := by rw [heap_alloc_at]; simp
      go_upto_region 5 with fail
      generalize (wr.alloc (.cells #[.slice al rn cl, .slice aa (rn + 1) ca, .slice ab (rn + 2) cb, .slice ac (rn + 3) cc, .int .i64 rm] 95)) = w2 at g2 kx ⊢
      have hI2 := hI.kept (w' := w2) (fun k hk => g2.block k (hI.lt k hk) (by simp))
      have hB2 : Below w.heap.size w w2 := hB.grown g2 hB.size (by simp)
      have d0 : w2.cell? ⟨wr.heap.size, 0, none⟩ = some (.slice al rn cl) := cell_blk kx 0
      have d1 : w2.cell? ⟨wr.heap.size, 1, none⟩ = some (.slice aa (rn + 1) ca) := cell_blk kx 1
      have d2 : w2.cell? ⟨wr.heap.size, 2, none⟩ = some (.slice ab (rn + 2) cb) := cell_blk kx 2
      have d3 : w2.cell? ⟨wr.heap.size, 3, none⟩ = some (.slice ac (rn + 3) cc) := cell_blk kx 3
      have d4 : w2.cell? ⟨wr.heap.size, 4, none⟩ = some (.int .i64 rm) := cell_blk kx 4
      have f1 := full_ints rn (by omega) rm _ w2 hI2.l
      have f2 := full_ints (rn + 1) (by omega) rm _ w2 hI2.a
      have f3 := full_ints (rn + 2) (by omega) rm _ w2 hI2.b
      have f4 := full_ints (rn + 3) (by omega) rm _ w2 hI2.c
      simp only at f1 f2 f3 f4
      clear k0 k1 k2 k3 k4 hI hI2 g2 kx hcell hb
      have F1 := hide f1
      have F2 := hide f2
      have F3 := hide f3
      have F4 := hide f4
      clear f1 f2 f3 f4
      go_wp2_with fail
      refine F1.out.mono ?_
      rintro e w' ⟨rfl, hw⟩
      rw [hw]
      clear hw w' F1
      go_wp2_with fail
      refine F2.out.mono ?_
      rintro e w' ⟨rfl, hw⟩
      rw [hw]
      clear hw w' F2
      go_wp2_with fail
      refine F3.out.mono ?_
      rintro e w' ⟨rfl, hw⟩
      rw [hw]
      clear hw w' F3
      go_wp2_with fail
      refine F4.out.mono ?_
      rintro e w' ⟨rfl, hw⟩
      rw [hw]
      clear hw w' F4
      go_wp2_with fail
      go_roundg (irs.length - (i + 1))
      case measure => omega
      case rel => exact ⟨i + 1, by go_num, by omega, rfl, hB2⟩
    · go_wp2_with fail
      go_loopg [5] 1 (fun gk s5 wr' => s5 = .int .i64 0 ∧ wr' = wr)
      case atStart => exact ⟨rfl, rfl⟩
      case round =>
        obtain ⟨rfl, hw⟩ := hrel
        rw [hw]
        go_wp2_with fail
        go_ret
        exact ⟨rfl, hB⟩

end Go.Proofs.YtachmkhbbbmioaaGreat

namespace Go.Proofs.YtachmkhbbbmioaaGreat
open Go.RowKit Go.Shelf

theorem After.pre {x : Pr} {w w1 w2 : World} (h : After x w1 w2) (g : w.grownBy w1 none) : After x w w2 := by
  obtain ⟨x', hP, h1, h2, hF, hO⟩ := h
  exact ⟨x', hP, h1, h2, ((Fr.refl _ w).grown g (by simp)).trans hF, hO.mono g.size⟩

theorem LawAt.same {base wb : Nat} {vl vi : Value} {prs : List Pr} {irs : List IR} {w w2 : World} {j : Nat} {x : Pr} (h : LawAt base wb vl vi prs irs w) (hj : prs[j]? = some x) (hP : PairAt x w2) (hF : Fr x.own w w2) (hb : base ≤ w.heap.size) :
    LawAt base wb vl vi prs irs w2 ∧ Below base w w2 := by
  obtain ⟨ow, o1, o2, o3⟩ := h.ow
  have hl := h.lts
  have key : ∀ k, k < w.heap.size → ow k ≠ 2 * j + 1 → w2.heap[k]? = w.heap[k]? := fun k hk hn => hF.block k hk (fun q => hn (o2 j x hj k q).1)
  refine ⟨⟨?_, ?_, ?_, ?_, ?_, ow, o1, o2, o3⟩, hF.toBelow hb (fun k hk => (o2 j x hj k hk).2)⟩
  · exact (key wb (lt_of_heap h.cp) (by rw [(o1 wb (by simp [lawOwn])).1]; omega)).trans h.cp
  · exact h.l.kept (fun g hg => key g (h.l.lt hg) (by rw [(o1 g (by simp [lawOwn, hg])).1]; omega))
  · exact h.i.kept (fun g hg => key g (h.i.lt hg) (by rw [(o1 g (by simp [lawOwn, hg])).1]; omega))
  · intro i y hi
    by_cases q : j = i
    · subst q
      rw [hj] at hi
      cases hi
      exact hP
    · exact (h.pr i y hi).kept (fun k hk => key k (hl.pr i y hi k hk) (by rw [(o2 i y hi k hk).1]; omega))
  · intro i r hi
    exact (h.ir i r hi).kept (fun k hk => key k (hl.ir i r hi k hk) (by rw [(o3 i r hi k hk).1]; omega))

set_option maxRecDepth 100000 in
set_option maxHeartbeats 2000000 in
/-- Insert, Delete on both sides. -/
theorem writes_any (wb : Nat) (x : Pr) (k C A B : Int) (s : ByteArray) (w : World) (h : PairAt x w) :
    Calls Tryz.prog 65 #[.pointer (some ⟨wb, 0, none⟩), .agg #[.pointer (some ⟨x.cb, 0, none⟩), .pointer (some ⟨x.yb, 0, none⟩)], .agg #[.int .i64 k, .int .i64 C, .int .i64 A, .int .i64 B, .string s]] w fun e w' => e = .returned (.bool true) ∧ After x w w' := by
  have hlt := h.lt
  have g1 : w.grownBy ((w.alloc (.cells #[.pointer (some ⟨x.cb, 0, none⟩), .pointer (some ⟨x.yb, 0, none⟩)] 39)).alloc (.cells #[.int .i64 k, .int .i64 C, .int .i64 A, .int .i64 B, .string s] 72)) none := grown_alloc (grown_alloc (grown_refl _) _) _
  have k1 : ((w.alloc (.cells #[.pointer (some ⟨x.cb, 0, none⟩), .pointer (some ⟨x.yb, 0, none⟩)] 39)).alloc (.cells #[.int .i64 k, .int .i64 C, .int .i64 A, .int .i64 B, .string s] 72)).heap[w.heap.size]? = some (.cells #[.pointer (some ⟨x.cb, 0, none⟩), .pointer (some ⟨x.yb, 0, none⟩)] 39) := by
    rw [Below.heap_alloc _ _ _ (by simp), heap_alloc_at]; simp
  have k2 : ((w.alloc (.cells #[.pointer (some ⟨x.cb, 0, none⟩), .pointer (some ⟨x.yb, 0, none⟩)] 39)).alloc (.cells #[.int .i64 k, .int .i64 C, .int .i64 A, .int .i64 B, .string s] 72)).heap[w.heap.size + 1]? = some (.cells #[.int .i64 k, .int .i64 C, .int .i64 A, .int .i64 B, .string s] 72) := by
    rw [heap_alloc_at]; simp
  go_enter Tryz.func65, Tryz.ntmps65
  go_upto_region 1 with fail
  generalize ((w.alloc (.cells #[.pointer (some ⟨x.cb, 0, none⟩), .pointer (some ⟨x.yb, 0, none⟩)] 39)).alloc (.cells #[.int .i64 k, .int .i64 C, .int .i64 A, .int .i64 B, .string s] 72)) = w1 at g1 k1 k2 ⊢
  have h1 : PairAt x w1 := h.kept (fun k hk => g1.block k (hlt k hk) (by simp))
  have n1 : w.heap.size ∉ x.own := fun q => by have := hlt _ q; omega
  have n2 : w.heap.size + 1 ∉ x.own := fun q => by have := hlt _ q; omega
  generalize w.heap.size + 1 = b2 at k2 n2 ⊢
  generalize w.heap.size = b1 at k1 n1 ⊢
  have a0 : w1.cell? ⟨b2, 0, none⟩ = some (.int .i64 k) := cell_blk k2 0
  have a2 : w1.cell? ⟨b2, 2, none⟩ = some (.int .i64 A) := cell_blk k2 2
  have a3 : w1.cell? ⟨b2, 3, none⟩ = some (.int .i64 B) := cell_blk k2 3
  have d0 : w1.cell? ⟨b1, 0, none⟩ = some (.pointer (some ⟨x.cb, 0, none⟩)) := cell_blk k1 0
  by_cases hk : k = 1
  · subst hk
    obtain ⟨r, hr⟩ : ∃ r, IntKind.i32.wrap B = r := ⟨_, rfl⟩
    have hr2 : IntKind.i64.wrap r = r := by subst hr; rw [IntKind.wrap_i32, IntKind.wrap_i64]; omega
    obtain ⟨code, hcode⟩ := pair_ins x A r w1 h1
    have hC := hide hcode
    clear hcode
    go_wp2_with fail
    refine hC.out.mono ?_
    rintro e w2 ⟨rfl, hF, hN⟩
    have hN2 := hide hN
    clear hN
    have kk1 := hF.blk k1 n1
    have kk2 := hF.blk k2 n2
    have aa2 : w2.cell? ⟨b2, 2, none⟩ = some (.int .i64 A) := cell_blk kk2 2
    have dd1 : w2.cell? ⟨b1, 1, none⟩ = some (.pointer (some ⟨x.yb, 0, none⟩)) := cell_blk kk1 1
    go_wp2_with fail
    refine hN2.out.mono ?_
    rintro e w3 ⟨rfl, hA⟩
    have he : (code == code) = true := by simp
    go_wp2_with fail
    go_ret
    exact ⟨rfl, hA.pre g1⟩
  · obtain ⟨code, hcode⟩ := pair_del x A w1 h1
    have hC := hide hcode
    clear hcode
    go_wp2_with fail
    refine hC.out.mono ?_
    rintro e w2 ⟨rfl, hF, hN⟩
    have hN2 := hide hN
    clear hN
    have kk1 := hF.blk k1 n1
    have kk2 := hF.blk k2 n2
    have aa2 : w2.cell? ⟨b2, 2, none⟩ = some (.int .i64 A) := cell_blk kk2 2
    have dd1 : w2.cell? ⟨b1, 1, none⟩ = some (.pointer (some ⟨x.yb, 0, none⟩)) := cell_blk kk1 1
    go_wp2_with fail
    refine hN2.out.mono ?_
    rintro e w3 ⟨rfl, hA⟩
    have he : (code == code) = true := by simp
    go_wp2_with fail
    go_ret
    exact ⟨rfl, hA.pre g1⟩

end Go.Proofs.YtachmkhbbbmioaaGreat
