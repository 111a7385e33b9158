import Derived.Test.YtachmkhbbbmioaaGreatRefBX
import Derived.Laws.Runes
import Derived.Laws.Concat
namespace Go.Proofs.YtachmkhbbbmioaaGreat
open Go.RowKit Go.Shelf

theorem txt_step (L : List El) (i : Nat) (x : El) (h : L[i]? = some x) : (⟨(txt (L.take i)).toArray⟩ : ByteArray) ++ Utf8.encode x.r = ⟨(txt (L.take (i + 1))).toArray⟩ := by
  have e : (⟨(txt (L.take i)).toArray⟩ : ByteArray) ++ Utf8.encode x.r = ⟨(txt (L.take i)).toArray ++ (Utf8.encode x.r).data⟩ := by
    cases hx : Utf8.encode x.r with | mk d => exact ByteArray.ext (by rw [ByteArray.data_append])
  rw [e, List.take_add_one, h]
  congr 1
  rw [← Array.toList_inj, Array.toList_append, encode_eq x.ok]
  simp [txt]

theorem enc_le (x : El) : (Utf8.encode x.r).size ≤ 4 := by
  have h1 := (Lib.runeCells_le x.r).2
  have h2 := encode_eq x.ok
  have h3 : (Utf8.encode x.r).size = (Lib.encodeRune x.r).length := by rw [← h2]; rfl
  have := txt_le [x]
  simp [txt] at this
  omega

set_option maxRecDepth 100000 in
set_option maxHeartbeats 1000000 in
theorem ref_text (yb : Nat) (S : CS) (vc vl vw vL : Value) (log wt : List (List Value)) (w : World) (h : RefAt yb S vc vl vw vL log wt w) (hlen : S.L.length ≤ 1000000) :
    Calls Tryz.prog 43 #[.pointer (some ⟨yb, 0, none⟩)] w fun e w' => e = .returned (.string ⟨(txt (vis S.L)).toArray⟩) ∧ Below w.heap.size w w' := by
  have ht := ref_there yb S vc vl vw vL log wt w h hlen
  have hv : (vis S.L).length ≤ 1000000 := Nat.le_trans (List.length_filter_le _ _) hlen
  generalize vis S.L = V at ht hv ⊢
  go_enter Tryz.func43, Tryz.ntmps43
  go_wp2_with fail
  refine ht.mono ?_
  rintro e w1 ⟨v, rfl, hR, -, hB⟩
  obtain ⟨a, c, rfl, hc⟩ := hR.value
  rw [List.length_map] at hc hR ⊢
  go_wp2_with fail
  go_loopg [3, 5] V.length (fun g s3 s5 wr => ∃ (i : Nat), s5 = .int .i64 i ∧ i ≤ V.length ∧ g = V.length - i ∧ s3 = .string ⟨(txt (V.take i)).toArray⟩ ∧ wr = w1)
  case atStart => exact ⟨0, rfl, by omega, rfl, by simp [txt], rfl⟩
  case round =>
    obtain ⟨i, rfl, hil, hg, rfl, hw⟩ := hrel
    rw [hw]
    clear hw wr
    by_cases hlt : i < V.length
    · have hli : (i : Int) < (V.length : Int) := by omega
      have hx : V[i]? = some V[i] := by simp [hlt]
      generalize V[i] = x at hx
      obtain ⟨gL, cap, cur, hv, hcap, hbl, hcell⟩ := hR.cell (i := i) (x := elCells x) (by simp [hx])
      simp only [Value.slice.injEq] at hv
      obtain ⟨rfl, -, rfl⟩ := hv
      have k2 : w1.cell? ⟨gL, i * 4 + 2, none⟩ = some (.int .i64 x.r) := (cell_blk hbl (i * 4 + 2)).trans (hcell 2 _ rfl)
      obtain ⟨r0, r1, r2⟩ := x.ok
      have hst := txt_step V i x hx
      have hle := txt_le (V.take i)
      have hen := enc_le x
      have hadd : ∀ w, (Op.stringOp .add ⟨(txt (V.take i)).toArray⟩ (Utf8.encode x.r)).run Tryz.prog w = .ok (.string ⟨(txt (V.take (i + 1))).toArray⟩) w := fun w => by
        have e1 : (⟨(txt (V.take i)).toArray⟩ : ByteArray).size = (txt (V.take i)).length := by simp [ByteArray.size]
        have e2 : (V.take i).length ≤ 1000000 := by simp; omega
        have := run_string_add_sum (P := Tryz.prog) (w := w) ⟨(txt (V.take i)).toArray⟩ (Utf8.encode x.r) (by omega)
        rwa [hst] at this
      clear hst hle hen
      go_wp2_with fail
      go_roundg (V.length - (i + 1))
      case measure => omega
      case rel => exact ⟨i + 1, by go_num, by omega, rfl, rfl, rfl⟩
    · obtain rfl : i = V.length := by omega
      go_wp2_with fail
      go_ret
      exact ⟨by rw [List.take_length]; rfl, hB⟩

end Go.Proofs.YtachmkhbbbmioaaGreat

namespace Go.Proofs.YtachmkhbbbmioaaGreat
open Go.RowKit Go.Shelf

theorem lt_cellW {w : World} {a : Addr} {v : Value} (h : w.cell? a = some v) : a.block < w.heap.size := by
  by_cases hlt : a.block < w.heap.size
  · exact hlt
  · have hn : w.heap[a.block]? = none := by simp; omega
    simp [World.cell?, hn] at h

theorem cell_set_ne {w : World} {p a : Addr} {v : Value} (h : a.block ≠ p.block) : (w.setCell p v).cell? a = w.cell? a :=
  World.cell?_of_block (Below.heap_setCell _ _ _ _ h)

theorem set8 {w : World} {B b o : Nat} {v0 v1 v2 v3 v4 v5 v6 v7 : Value} (h : b ≠ B) : ((((((((w.setCell ⟨B, 0, none⟩ v0).setCell ⟨B, 1, none⟩ v1).setCell ⟨B, 2, none⟩ v2).setCell ⟨B, 3, none⟩ v3).setCell ⟨B, 4, none⟩ v4).setCell ⟨B, 5, none⟩ v5).setCell ⟨B, 6, none⟩ v6).setCell ⟨B, 7, none⟩ v7).cell? ⟨b, o, none⟩ = w.cell? ⟨b, o, none⟩ := by
  rw [cell_set_ne h, cell_set_ne h, cell_set_ne h, cell_set_ne h, cell_set_ne h, cell_set_ne h, cell_set_ne h, cell_set_ne h]

theorem set8_blk {w : World} {B : Nat} {e : TypeId} {a0 a1 a2 a3 a4 a5 a6 a7 v0 v1 v2 v3 v4 v5 v6 v7 : Value} (h : w.heap[B]? = some (.cells #[a0, a1, a2, a3, a4, a5, a6, a7] e)) : ((((((((w.setCell ⟨B, 0, none⟩ v0).setCell ⟨B, 1, none⟩ v1).setCell ⟨B, 2, none⟩ v2).setCell ⟨B, 3, none⟩ v3).setCell ⟨B, 4, none⟩ v4).setCell ⟨B, 5, none⟩ v5).setCell ⟨B, 6, none⟩ v6).setCell ⟨B, 7, none⟩ v7).heap[B]? = some (.cells #[v0, v1, v2, v3, v4, v5, v6, v7] e) := by
  have h0 := set_blk h (i := 0) (v := v0)
  have h1 := set_blk h0 (i := 1) (v := v1)
  have h2 := set_blk h1 (i := 2) (v := v2)
  have h3 := set_blk h2 (i := 3) (v := v3)
  have h4 := set_blk h3 (i := 4) (v := v4)
  have h5 := set_blk h4 (i := 5) (v := v5)
  have h6 := set_blk h5 (i := 6) (v := v6)
  refine (set_blk h6 (i := 7) (v := v7)).trans ?_
  simp

theorem grown_set {w w5 : World} {p : Addr} {v : Value} (h : w.grownBy w5 none) (hB : w.heap.size ≤ p.block) : w.grownBy (w5.setCell p v) none :=
  ⟨h.os, h.tape, h.output, by have := h.size; simpa [World.setCell] using this, fun k hk e => (Below.heap_setCell _ _ _ _ (by omega)).trans (h.block k hk e)⟩

set_option maxRecDepth 100000 in
set_option maxHeartbeats 4000000 in
/-- An operation of this copy: its clock in new memory. -/
theorem ref_own (yb : Nat) (S : CS) (vc vl vw vL : Value) (log wt : List (List Value)) (kind tc tk r : Int) (w : World) (h : RefAt yb S vc vl vw vL log wt w) (hG : Good S) :
    Calls Tryz.prog 137 #[.pointer (some ⟨yb, 0, none⟩), .int .i64 kind, .agg #[.int .i64 tc, .int .i64 tk], .int .i64 r] w fun e w' =>
      ∃ v, e = .returned (.agg #[.int .i64 S.s, .int .i64 (S.cl (S.s - 1) + 1), .int .i64 (S.g + 1), .int .i64 kind, .int .i64 tc, .int .i64 tk, .int .i64 r, v]) ∧ RowAt 3 1 v (ckRow S) w' ∧ (∀ g, v.ownBlock = some g → w.heap.size ≤ g) ∧ w.grownBy w' none := by
  have h1 := hG.s1
  have hn := hG.sn
  have h8 := hG.n8
  have hcl := hG.cl (S.s - 1) (by omega)
  have hg0 := hG.g0
  have hg1 := hG.g1
  have g1 : w.grownBy ((w.alloc (.cells #[.int .i64 tc, .int .i64 tk] 86)).alloc (.cells #[.int .i64 0, .int .i64 0, .int .i64 0, .int .i64 0, .int .i64 0, .int .i64 0, .int .i64 0, .slice none 0 0] 88)) none := grown_alloc (grown_alloc (grown_refl _) _) _
  go_enter Tryz.func137, Tryz.ntmps137
  go_wp2_with fail
  have k6 : ((w.alloc (.cells #[.int .i64 tc, .int .i64 tk] 86)).alloc (.cells #[.int .i64 0, .int .i64 0, .int .i64 0, .int .i64 0, .int .i64 0, .int .i64 0, .int .i64 0, .slice none 0 0] 88)).heap[w.heap.size]? = some (.cells #[.int .i64 tc, .int .i64 tk] 86) := by
    simp only [heap_alloc_at, World.size_alloc]; simp
  have k8 : ((w.alloc (.cells #[.int .i64 tc, .int .i64 tk] 86)).alloc (.cells #[.int .i64 0, .int .i64 0, .int .i64 0, .int .i64 0, .int .i64 0, .int .i64 0, .int .i64 0, .slice none 0 0] 88)).heap[w.heap.size + 1]? = some (.cells #[.int .i64 0, .int .i64 0, .int .i64 0, .int .i64 0, .int .i64 0, .int .i64 0, .int .i64 0, .slice none 0 0] 88) := by
    simp only [heap_alloc_at, World.size_alloc]; simp
  generalize ((w.alloc (.cells #[.int .i64 tc, .int .i64 tk] 86)).alloc (.cells #[.int .i64 0, .int .i64 0, .int .i64 0, .int .i64 0, .int .i64 0, .int .i64 0, .int .i64 0, .slice none 0 0] 88)) = w1 at g1 k6 k8 ⊢
  have hr := h.grown g1
  obtain ⟨g, cap, cur, rfl, hcap, hb, hc⟩ := hr.clock (i := S.s - 1) (by omega)
  obtain ⟨q, hq⟩ : ∃ q : Nat, S.s = q + 1 := ⟨S.s - 1, by omega⟩
  have c1 : w1.cell? ⟨yb, 1, none⟩ = some (.int .i64 ((q : Int) + 1)) := by
    have : w1.cell? ⟨yb, 1, none⟩ = some (.int .i64 S.s) := cell_blk hr.cp 1
    rw [this, hq]; rfl
  have c2 : w1.cell? ⟨yb, 2, none⟩ = some (.slice (some ⟨g, 0, none⟩) S.n cap) := cell_blk hr.cp 2
  have c3 : w1.cell? ⟨yb, 3, none⟩ = some (.int .i64 S.g) := cell_blk hr.cp 3
  have hq1 : S.s - 1 = q := by omega
  rw [hq1] at hc hcl
  have c4 : w1.cell? ⟨g, q, none⟩ = some (.int .i64 (S.cl q)) := (cell_blk hb _).trans hc
  have hqn : q < S.n := by omega
  have hqi : (q : Int) < (S.n : Int) := by omega
  have m0 : w1.cell? ⟨w.heap.size, 0, none⟩ = some (.int .i64 tc) := cell_blk k6 0
  have m1 : w1.cell? ⟨w.heap.size, 1, none⟩ = some (.int .i64 tk) := cell_blk k6 1
  have hA : Calls Tryz.prog 79 #[.pointer (some ⟨yb, 0, none⟩)] w1.drew fun e w' => ∃ a c, e = .returned (.slice a S.n c) ∧ RowAt 3 1 (.slice a S.n c) (ckRow S) w' ∧ (∀ g, (Value.slice a S.n c).ownBlock = some g → w1.heap.size ≤ g) ∧ w1.drew.grownBy w' none := by
    refine (ref_ahead yb S _ vl vw vL log wt w1.drew (hr.kept (fun _ _ => rfl)) h8).mono ?_
    rintro e w' ⟨v, rfl, h2, h3, h4⟩
    obtain ⟨a, c, rfl, -⟩ := h2.value
    rw [ckRow_len] at h2 h3 ⊢
    exact ⟨a, c, rfl, h2, h3, h4⟩
  have hs1 := g1.size
  have hyb : yb < w.heap.size := lt_of_heap h.cp
  have hgb : g < w.heap.size := h.ck.lt rfl
  have ny : yb ≠ w.heap.size + 1 := by omega
  have ng : g ≠ w.heap.size + 1 := by omega
  have nw : w.heap.size ≠ w.heap.size + 1 := by omega
  have hw1 : IntKind.i64.wrap ((q : Int) + 1 - 1) = (q : Int) := by rw [IntKind.wrap_i64]; omega
  have hw2 : IntKind.i64.wrap (q : Int) = (q : Int) := by rw [IntKind.wrap_i64]; omega
  have hw3 : IntKind.i64.wrap (S.cl q + 1) = S.cl q + 1 := by rw [IntKind.wrap_i64]; omega
  have hw4 : IntKind.i64.wrap (S.g + 1) = S.g + 1 := by rw [IntKind.wrap_i64]; omega
  have hq0 : (0 : Int) ≤ (q : Int) := by omega
  go_region_held3 (fun w' => w'.cell? ⟨yb, 1, none⟩ = some (.int .i64 ((q : Int) + 1)) ∧ w'.cell? ⟨yb, 2, none⟩ = some (.slice (some ⟨g, 0, none⟩) S.n cap) ∧ w'.cell? ⟨yb, 3, none⟩ = some (.int .i64 S.g) ∧ w'.cell? ⟨g, q, none⟩ = some (.int .i64 (S.cl q)) ∧ w'.cell? ⟨w.heap.size, 0, none⟩ = some (.int .i64 tc) ∧ w'.cell? ⟨w.heap.size, 1, none⟩ = some (.int .i64 tk))
    (first | exact ⟨by rw [set8 ny]; exact yk _ _ c1, by rw [set8 ny]; exact yk _ _ c2, by rw [set8 ny]; exact yk _ _ c3, by rw [set8 ng]; exact yk _ _ c4, by rw [set8 nw]; exact yk _ _ m0, by rw [set8 nw]; exact yk _ _ m1⟩ | exact ⟨by with_reducible exact yk _ _ c1, yk _ _ c2, yk _ _ c3, yk _ _ c4, yk _ _ m0, yk _ _ m1⟩ | go_keep)
    (first | (go_at_call 79; refine hA.mono ?_; rintro e w5 ⟨va, vcap, rfl, hRv, hfv, hgl⟩; have yk : ∀ (a : Addr) (x : Value), w1.cell? a = some x → w5.cell? a = some x := (fun a x hx => (World.cell?_of_block (hgl.block _ (lt_cellW hx) (by simp))).trans hx); have k85 : w5.heap[w.heap.size + 1]? = some (.cells #[.int .i64 0, .int .i64 0, .int .i64 0, .int .i64 0, .int .i64 0, .int .i64 0, .int .i64 0, .slice none 0 0] 88) := (hgl.block _ (lt_of_heap k8) (by simp)).trans k8; have d0 : w5.cell? ⟨w.heap.size + 1, 0, none⟩ = some (.int .i64 0) := cell_blk k85 0; have f0 : w5.frozen? ⟨w.heap.size + 1, 0, none⟩ = false := frozen_blk k85 0; have d1 : w5.cell? ⟨w.heap.size + 1, 1, none⟩ = some (.int .i64 0) := cell_blk k85 1; have f1 : w5.frozen? ⟨w.heap.size + 1, 1, none⟩ = false := frozen_blk k85 1; have d2 : w5.cell? ⟨w.heap.size + 1, 2, none⟩ = some (.int .i64 0) := cell_blk k85 2; have f2 : w5.frozen? ⟨w.heap.size + 1, 2, none⟩ = false := frozen_blk k85 2; have d3 : w5.cell? ⟨w.heap.size + 1, 3, none⟩ = some (.int .i64 0) := cell_blk k85 3; have f3 : w5.frozen? ⟨w.heap.size + 1, 3, none⟩ = false := frozen_blk k85 3; have d4 : w5.cell? ⟨w.heap.size + 1, 4, none⟩ = some (.int .i64 0) := cell_blk k85 4; have f4 : w5.frozen? ⟨w.heap.size + 1, 4, none⟩ = false := frozen_blk k85 4; have d5 : w5.cell? ⟨w.heap.size + 1, 5, none⟩ = some (.int .i64 0) := cell_blk k85 5; have f5 : w5.frozen? ⟨w.heap.size + 1, 5, none⟩ = false := frozen_blk k85 5; have d6 : w5.cell? ⟨w.heap.size + 1, 6, none⟩ = some (.int .i64 0) := cell_blk k85 6; have f6 : w5.frozen? ⟨w.heap.size + 1, 6, none⟩ = false := frozen_blk k85 6; have d7 : w5.cell? ⟨w.heap.size + 1, 7, none⟩ = some (.slice none 0 0) := cell_blk k85 7; have f7 : w5.frozen? ⟨w.heap.size + 1, 7, none⟩ = false := frozen_blk k85 7))
  have hk6 : ((((((((w5.setCell ⟨w.heap.size + 1, 0, none⟩ (.int .i64 ((q : Int) + 1))).setCell ⟨w.heap.size + 1, 1, none⟩ (.int .i64 (S.cl q + 1))).setCell ⟨w.heap.size + 1, 2, none⟩ (.int .i64 (S.g + 1))).setCell ⟨w.heap.size + 1, 3, none⟩ (.int .i64 kind)).setCell ⟨w.heap.size + 1, 4, none⟩ (.int .i64 tc)).setCell ⟨w.heap.size + 1, 5, none⟩ (.int .i64 tk)).setCell ⟨w.heap.size + 1, 6, none⟩ (.int .i64 r)).setCell ⟨w.heap.size + 1, 7, none⟩ (.slice va S.n vcap)).heap[w.heap.size + 1]? = some (.cells #[.int .i64 ((q : Int) + 1), .int .i64 (S.cl q + 1), .int .i64 (S.g + 1), .int .i64 kind, .int .i64 tc, .int .i64 tk, .int .i64 r, .slice va S.n vcap] 88) := set8_blk k85
  have hg5 : w.grownBy w5 none := grown_trans g1 ⟨hgl.os, hgl.tape, hgl.output, hgl.size, hgl.block⟩
  have hg6 : w.grownBy ((((((((w5.setCell ⟨w.heap.size + 1, 0, none⟩ (.int .i64 ((q : Int) + 1))).setCell ⟨w.heap.size + 1, 1, none⟩ (.int .i64 (S.cl q + 1))).setCell ⟨w.heap.size + 1, 2, none⟩ (.int .i64 (S.g + 1))).setCell ⟨w.heap.size + 1, 3, none⟩ (.int .i64 kind)).setCell ⟨w.heap.size + 1, 4, none⟩ (.int .i64 tc)).setCell ⟨w.heap.size + 1, 5, none⟩ (.int .i64 tk)).setCell ⟨w.heap.size + 1, 6, none⟩ (.int .i64 r)).setCell ⟨w.heap.size + 1, 7, none⟩ (.slice va S.n vcap)) none := by
    iterate 8 refine grown_set ?_ (by simp)
    exact hg5
  have hR6 : RowAt 3 1 (.slice va S.n vcap) (ckRow S) ((((((((w5.setCell ⟨w.heap.size + 1, 0, none⟩ (.int .i64 ((q : Int) + 1))).setCell ⟨w.heap.size + 1, 1, none⟩ (.int .i64 (S.cl q + 1))).setCell ⟨w.heap.size + 1, 2, none⟩ (.int .i64 (S.g + 1))).setCell ⟨w.heap.size + 1, 3, none⟩ (.int .i64 kind)).setCell ⟨w.heap.size + 1, 4, none⟩ (.int .i64 tc)).setCell ⟨w.heap.size + 1, 5, none⟩ (.int .i64 tk)).setCell ⟨w.heap.size + 1, 6, none⟩ (.int .i64 r)).setCell ⟨w.heap.size + 1, 7, none⟩ (.slice va S.n vcap)) := by
    refine hRv.kept (fun b hb => ?_)
    have hne : b ≠ w.heap.size + 1 := by
      have h1 := hfv b hb
      have h2 := lt_of_heap k8
      omega
    iterate 8 rw [Below.heap_setCell _ _ _ _ hne]
  generalize ((((((((w5.setCell ⟨w.heap.size + 1, 0, none⟩ (.int .i64 ((q : Int) + 1))).setCell ⟨w.heap.size + 1, 1, none⟩ (.int .i64 (S.cl q + 1))).setCell ⟨w.heap.size + 1, 2, none⟩ (.int .i64 (S.g + 1))).setCell ⟨w.heap.size + 1, 3, none⟩ (.int .i64 kind)).setCell ⟨w.heap.size + 1, 4, none⟩ (.int .i64 tc)).setCell ⟨w.heap.size + 1, 5, none⟩ (.int .i64 tk)).setCell ⟨w.heap.size + 1, 6, none⟩ (.int .i64 r)).setCell ⟨w.heap.size + 1, 7, none⟩ (.slice va S.n vcap)) = w6 at hk6 hg6 hR6 ⊢
  clear d0 d1 d2 d3 d4 d5 d6 d7 f0 f1 f2 f3 f4 f5 f6 f7 k85 yk hgl hRv hw1 hw2 hw3 hw4 c1 c2 c3 c4 m0 m1 hA hr hb hc k6
  have d0 : w6.cell? ⟨w.heap.size + 1, 0, none⟩ = some (.int .i64 ((q : Int) + 1)) := cell_blk hk6 0
  have d1 : w6.cell? ⟨w.heap.size + 1, 1, none⟩ = some (.int .i64 (S.cl q + 1)) := cell_blk hk6 1
  have d2 : w6.cell? ⟨w.heap.size + 1, 2, none⟩ = some (.int .i64 (S.g + 1)) := cell_blk hk6 2
  have d3 : w6.cell? ⟨w.heap.size + 1, 3, none⟩ = some (.int .i64 kind) := cell_blk hk6 3
  have d4 : w6.cell? ⟨w.heap.size + 1, 4, none⟩ = some (.int .i64 tc) := cell_blk hk6 4
  have d5 : w6.cell? ⟨w.heap.size + 1, 5, none⟩ = some (.int .i64 tk) := cell_blk hk6 5
  have d6 : w6.cell? ⟨w.heap.size + 1, 6, none⟩ = some (.int .i64 r) := cell_blk hk6 6
  have d7 : w6.cell? ⟨w.heap.size + 1, 7, none⟩ = some (.slice va S.n vcap) := cell_blk hk6 7
  go_wp2_with fail
  refine bodyPost_ret (v := .agg #[.int .i64 ((q : Int) + 1), .int .i64 (S.cl q + 1), .int .i64 (S.g + 1), .int .i64 kind, .int .i64 tc, .int .i64 tk, .int .i64 r, .slice va S.n vcap]) (by simp [results, Tryz.results137, go_sem, d0, d1, d2, d3, d4, d5, d6, d7]) rfl ⟨.slice va S.n vcap, ?_, hR6, ?_, hg6⟩
  · rw [hq1, hq]; rfl
  · intro b hb
    have := hfv b hb
    omega

end Go.Proofs.YtachmkhbbbmioaaGreat
