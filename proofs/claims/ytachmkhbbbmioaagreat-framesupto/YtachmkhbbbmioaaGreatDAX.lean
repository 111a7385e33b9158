import Derived.Test.YtachmkhbbbmioaaGreatKeepUX
import Derived.Test.YtachmkhbbbmioaaGreatRefOX
import Derived.Test.YtachmkhbbbmioaaGreatCuFX
import Derived.Test.YtachmkhbbbmioaaGreatWtEX
namespace Go.Proofs.YtachmkhbbbmioaaGreat
open Go.RowKit Go.Shelf

set_option maxRecDepth 100000 in
set_option maxHeartbeats 4000000 in
/-- Every list still reads as its owner wrote it. -/
theorem looks_d (base wb : Nat) (L : LS) (w : World) (h : WAt base wb L w) (hlen : L.irs.length ≤ 2000000) (hlen2 : L.trs.length ≤ 2000000) :
    Calls Tryz.prog 17 #[.pointer (some ⟨wb, 0, none⟩)] w fun e w' => e = .returned (.bool true) ∧ Below w.heap.size w w' := by
  obtain ⟨ai, ci, hvi, hci⟩ := h.i.value
  rw [List.length_map] at hvi hci
  obtain ⟨at0, ct, hvt, hct⟩ := h.t.value
  rw [List.length_map] at hvt hct
  have HVI := hide hvi
  have HVT := hide hvt
  clear hvi hvt
  go_enter Tryz.func17, Tryz.ntmps17
  go_wp2_with fail
  go_loopg [3] L.irs.length (fun gk s3 wr => ∃ (i : Nat), s3 = .int .i64 i ∧ i ≤ L.irs.length ∧ gk = L.irs.length - i ∧ Below w.heap.size w wr)
  case atStart => exact ⟨0, rfl, by omega, rfl, Below.refl _ _⟩
  case round =>
    obtain ⟨i, rfl, hil, hgk, hB⟩ := hrel
    have h1 := h.below hB
    have c2 : wr.cell? ⟨wb, 2, none⟩ = some L.vi := cell_blk h1.cp 2
    rw [HVI.out] at c2
    by_cases hlt : i < L.irs.length
    · have hli : (i : Int) < (L.irs.length : Int) := by omega
      have hx : L.irs[i]? = some L.irs[i] := by simp [hlt]
      generalize L.irs[i] = r at hx
      obtain ⟨gi, cap, cur, hv, -, hb, hcell⟩ := h1.i.cell (i := i) (x := irCells r) (by simp [hx])
      rw [List.length_map] at hv
      rw [HVI.out] at hv
      cases hv
      have k0 : wr.cell? ⟨gi, i * 5, none⟩ = some r.l := (cell_blk hb _).trans (hcell 0 _ rfl)
      have k1 : wr.cell? ⟨gi, i * 5 + 1, none⟩ = some r.a := (cell_blk hb _).trans (hcell 1 _ rfl)
      have k2 : wr.cell? ⟨gi, i * 5 + 2, none⟩ = some r.b := (cell_blk hb _).trans (hcell 2 _ rfl)
      have k3 : wr.cell? ⟨gi, i * 5 + 3, none⟩ = some r.c := (cell_blk hb _).trans (hcell 3 _ rfl)
      have k4 : wr.cell? ⟨gi, i * 5 + 4, none⟩ = some (.int .i64 r.m) := (cell_blk hb _).trans (hcell 4 _ rfl)
      have hI := h1.ir i r hx
      obtain ⟨rl, ra, rb, rc, rn, rm⟩ := r
      obtain ⟨al, cl, e1, -⟩ := hI.l.value
      obtain ⟨aa, ca, e2, -⟩ := hI.a.value
      obtain ⟨ab, cb, e3, -⟩ := hI.b.value
      obtain ⟨ac, cc, e4, -⟩ := hI.c.value
      simp only at e1 e2 e3 e4 k0 k1 k2 k3 k4
      rw [fullRow_len] at e1 e2 e3 e4
      subst e1 e2 e3 e4
      have hn8 := hI.n8
      simp only at hn8
      have g2 : wr.grownBy (wr.alloc (.cells #[.slice al rn cl, .slice aa (rn + 1) ca, .slice ab (rn + 2) cb, .slice ac (rn + 3) cc, .int .i64 rm] 95)) none := grown_alloc (grown_refl _) _
      have kx : (wr.alloc (.cells #[.slice al rn cl, .slice aa (rn + 1) ca, .slice ab (rn + 2) cb, .slice ac (rn + 3) cc, .int .i64 rm] 95)).heap[wr.heap.size]? = some (.cells #[.slice al rn cl, .slice aa (rn + 1) ca, .slice ab (rn + 2) cb, .slice ac (rn + 3) cc, .int .i64 rm] 95) := by rw [heap_alloc_at]; simp
      go_upto_region 5 with fail
      generalize (wr.alloc (.cells #[.slice al rn cl, .slice aa (rn + 1) ca, .slice ab (rn + 2) cb, .slice ac (rn + 3) cc, .int .i64 rm] 95)) = w2 at g2 kx ⊢
      have hI2 := hI.kept (w' := w2) (fun k hk => g2.block k (hI.lt k hk) (by simp))
      have hB2 : Below w.heap.size w w2 := hB.grown g2 hB.size (by simp)
      have d0 : w2.cell? ⟨wr.heap.size, 0, none⟩ = some (.slice al rn cl) := cell_blk kx 0
      have d1 : w2.cell? ⟨wr.heap.size, 1, none⟩ = some (.slice aa (rn + 1) ca) := cell_blk kx 1
      have d2 : w2.cell? ⟨wr.heap.size, 2, none⟩ = some (.slice ab (rn + 2) cb) := cell_blk kx 2
      have d3 : w2.cell? ⟨wr.heap.size, 3, none⟩ = some (.slice ac (rn + 3) cc) := cell_blk kx 3
      have d4 : w2.cell? ⟨wr.heap.size, 4, none⟩ = some (.int .i64 rm) := cell_blk kx 4
      have f1 := full_ints rn (by omega) rm _ w2 hI2.l
      have f2 := full_ints (rn + 1) (by omega) rm _ w2 hI2.a
      have f3 := full_ints (rn + 2) (by omega) rm _ w2 hI2.b
      have f4 := full_ints (rn + 3) (by omega) rm _ w2 hI2.c
      simp only at f1 f2 f3 f4
      clear k0 k1 k2 k3 k4 hI hI2 g2 kx hcell hb
      have F1 := hide f1
      have F2 := hide f2
      have F3 := hide f3
      have F4 := hide f4
      clear f1 f2 f3 f4
      go_wp2_with fail
      refine F1.out.mono ?_
      rintro e w' ⟨rfl, hw⟩
      rw [hw]
      clear hw w' F1
      go_wp2_with fail
      refine F2.out.mono ?_
      rintro e w' ⟨rfl, hw⟩
      rw [hw]
      clear hw w' F2
      go_wp2_with fail
      refine F3.out.mono ?_
      rintro e w' ⟨rfl, hw⟩
      rw [hw]
      clear hw w' F3
      go_wp2_with fail
      refine F4.out.mono ?_
      rintro e w' ⟨rfl, hw⟩
      rw [hw]
      clear hw w' F4
      go_wp2_with fail
      go_roundg (L.irs.length - (i + 1))
      case measure => omega
      case rel => exact ⟨i + 1, by go_num, by omega, rfl, hB2⟩
    · go_wp2_with fail
      clear c2
      go_loopg [5] L.trs.length (fun gk s5 wr => ∃ (i : Nat), s5 = .int .i64 i ∧ i ≤ L.trs.length ∧ gk = L.trs.length - i ∧ Below w.heap.size w wr)
      case atStart => exact ⟨0, rfl, by omega, rfl, hB⟩
      case round =>
        clear hB h1
        obtain ⟨i, rfl, hil, hgk, hB⟩ := hrel
        have h1 := h.below hB
        have c3 : wr.cell? ⟨wb, 3, none⟩ = some L.vt := cell_blk h1.cp 3
        rw [HVT.out] at c3
        by_cases hlt : i < L.trs.length
        · have hli : (i : Int) < (L.trs.length : Int) := by omega
          have hx : L.trs[i]? = some L.trs[i] := by simp [hlt]
          generalize L.trs[i] = r at hx
          obtain ⟨gi, cap, cur, hv, -, hb, hcell⟩ := h1.t.cell (i := i) (x := trCells r) (by simp [hx])
          rw [List.length_map] at hv
          rw [HVT.out] at hv
          cases hv
          have k0 : wr.cell? ⟨gi, i * 5, none⟩ = some r.l := (cell_blk hb _).trans (hcell 0 _ rfl)
          have k1 : wr.cell? ⟨gi, i * 5 + 1, none⟩ = some r.a := (cell_blk hb _).trans (hcell 1 _ rfl)
          have k2 : wr.cell? ⟨gi, i * 5 + 2, none⟩ = some r.b := (cell_blk hb _).trans (hcell 2 _ rfl)
          have k3 : wr.cell? ⟨gi, i * 5 + 3, none⟩ = some r.c := (cell_blk hb _).trans (hcell 3 _ rfl)
          have k4 : wr.cell? ⟨gi, i * 5 + 4, none⟩ = some (str r.m) := (cell_blk hb _).trans (hcell 4 _ rfl)
          have hI := h1.tr i r hx
          obtain ⟨rl, ra, rb, rc, rn, rm⟩ := r
          obtain ⟨al, cl, e1, -⟩ := hI.l.value
          obtain ⟨aa, ca, e2, -⟩ := hI.a.value
          obtain ⟨ab, cb, e3, -⟩ := hI.b.value
          obtain ⟨ac, cc, e4, -⟩ := hI.c.value
          simp only at e1 e2 e3 e4 k0 k1 k2 k3 k4
          rw [fullT_len] at e1 e2 e3 e4
          subst e1 e2 e3 e4
          have hn8 := hI.n8
          simp only at hn8
          have g2 : wr.grownBy (wr.alloc (.cells #[.slice al rn cl, .slice aa (rn + 1) ca, .slice ab (rn + 2) cb, .slice ac (rn + 3) cc, str rm] 98)) none := grown_alloc (grown_refl _) _
          have kx : (wr.alloc (.cells #[.slice al rn cl, .slice aa (rn + 1) ca, .slice ab (rn + 2) cb, .slice ac (rn + 3) cc, str rm] 98)).heap[wr.heap.size]? = some (.cells #[.slice al rn cl, .slice aa (rn + 1) ca, .slice ab (rn + 2) cb, .slice ac (rn + 3) cc, str rm] 98) := by rw [heap_alloc_at]; simp
          go_upto_region 11 with fail
          generalize (wr.alloc (.cells #[.slice al rn cl, .slice aa (rn + 1) ca, .slice ab (rn + 2) cb, .slice ac (rn + 3) cc, str rm] 98)) = w2 at g2 kx ⊢
          have hI2 := hI.kept (w' := w2) (fun k hk => g2.block k (hI.lt k hk) (by simp))
          have hB2 : Below w.heap.size w w2 := hB.grown g2 hB.size (by simp)
          have d0 : w2.cell? ⟨wr.heap.size, 0, none⟩ = some (.slice al rn cl) := cell_blk kx 0
          have d1 : w2.cell? ⟨wr.heap.size, 1, none⟩ = some (.slice aa (rn + 1) ca) := cell_blk kx 1
          have d2 : w2.cell? ⟨wr.heap.size, 2, none⟩ = some (.slice ab (rn + 2) cb) := cell_blk kx 2
          have d3 : w2.cell? ⟨wr.heap.size, 3, none⟩ = some (.slice ac (rn + 3) cc) := cell_blk kx 3
          have d4 : w2.cell? ⟨wr.heap.size, 4, none⟩ = some (str rm) := cell_blk kx 4
          have f1 := full_texts rn (by omega) rm _ w2 hI2.l
          have f2 := full_texts (rn + 1) (by omega) rm _ w2 hI2.a
          have f3 := full_texts (rn + 2) (by omega) rm _ w2 hI2.b
          have f4 := full_texts (rn + 3) (by omega) rm _ w2 hI2.c
          simp only at f1 f2 f3 f4
          clear k0 k1 k2 k3 k4 hI hI2 g2 kx hcell hb
          have F1 := hide f1
          have F2 := hide f2
          have F3 := hide f3
          have F4 := hide f4
          clear f1 f2 f3 f4
          go_wp2_with fail
          refine F1.out.mono ?_
          rintro e w' ⟨rfl, hw⟩
          rw [hw]
          clear hw w' F1
          go_wp2_with fail
          refine F2.out.mono ?_
          rintro e w' ⟨rfl, hw⟩
          rw [hw]
          clear hw w' F2
          go_wp2_with fail
          refine F3.out.mono ?_
          rintro e w' ⟨rfl, hw⟩
          rw [hw]
          clear hw w' F3
          go_wp2_with fail
          refine F4.out.mono ?_
          rintro e w' ⟨rfl, hw⟩
          rw [hw]
          clear hw w' F4
          go_wp2_with fail
          go_roundg (L.trs.length - (i + 1))
          case measure => omega
          case rel => exact ⟨i + 1, by go_num, by omega, rfl, hB2⟩
        · go_wp2_with fail
          go_ret
          exact ⟨rfl, hB⟩

end Go.Proofs.YtachmkhbbbmioaaGreat

namespace Go.Proofs.YtachmkhbbbmioaaGreat
open Go.RowKit Go.Shelf

set_option maxRecDepth 100000 in
set_option maxHeartbeats 2000000 in
/-- A copy that stays. -/
theorem begins_d (base wb n s : Nat) (L : LS) (w : World) (h : WAt base wb L w) (hb : base ≤ w.heap.size) (h1 : 1 ≤ s) (h2 : s ≤ n) (h3 : n ≤ 8) (hlen : L.prs.length ≤ 1000) :
    Calls Tryz.prog 13 #[.pointer (some ⟨wb, 0, none⟩), .int .i64 n, .int .i64 s, .bool true] w fun e w' => e = .returned (.bool true) ∧ ∃ vl' x, WAt base wb { L with vl := vl', prs := L.prs ++ [x] } w' ∧ Below base w w' := by
  have hC := hide (fun w => cpNew_any n s h1 h2 h3 w)
  have hR := hide (fun w => refNew_any n s h1 h2 h3 w)
  obtain ⟨al, cl, hvl, hcl⟩ := h.l.value
  rw [List.length_map] at hvl hcl
  have HVL := hide hvl
  clear hvl
  go_enter Tryz.func13, Tryz.ntmps13
  go_wp2_with fail
  refine (hC.out _).mono ?_
  rintro e w1 ⟨cb, sb, ma, mp, lb, mb, rfl, hcp, hg1, hn1⟩
  go_wp2_with fail
  refine (hR.out _).mono ?_
  rintro e w2 ⟨yb, vc, rfl, hrf, hg2, hn2⟩
  have hG : w.grownBy w2 none := grown_trans hg1 hg2
  have hL := h.grown hG
  have hs1 := hg1.size
  obtain ⟨x, hxc, hxy, hP, hxn⟩ : ∃ x : Pr, x.cb = cb ∧ x.yb = yb ∧ PairAt x w2 ∧ ∀ k ∈ x.own, w.heap.size ≤ k := by
    refine ⟨⟨cb, sb, ma, mp, lb, mb, yb, vc, .slice none 0 0, .slice none 0 0, newS n s, [], [], .slice none 0 0, []⟩, rfl, rfl, ⟨hcp.kept (fun k hk => hg2.block k (hcp.lt k hk) (by simp)), hrf, newS_good h1 h2 h3, by simp [newS, sumcl], by simp [newS, sumcl], opsOk_new n s, logAt_new n w2, by simp, wtRows_nil _ _ _, wtOk_new n s⟩, ?_⟩
    intro k hk
    simp only [Pr.own, List.mem_append, List.not_mem_nil, or_false] at hk
    rcases hk with hk | hk
    · simp only [List.mem_cons, List.not_mem_nil, or_false] at hk
      omega
    · have := hn2 k hk; omega
  subst hxc hxy
  clear hcp hrf hn1 hn2 hg1 hg2 hC hR
  have c0 : w2.cell? ⟨wb, 0, none⟩ = some (.slice al L.prs.length cl) := by rw [← HVL.out]; exact cell_blk hL.cp 0
  go_upto_region 6 with fail
  have g3 : w2.grownBy (w2.alloc (.cells #[.pointer (some ⟨x.cb, 0, none⟩), .pointer (some ⟨x.yb, 0, none⟩)] 39)) none := grown_alloc (grown_refl _) _
  have hS3 : SrcAt (w2.alloc (.cells #[.pointer (some ⟨x.cb, 0, none⟩), .pointer (some ⟨x.yb, 0, none⟩)] 39)) (.slice (some ⟨w2.heap.size, 0, none⟩) 1 1) ([x].map twoCells) := src_new w2 (twoCells x) _
  have hR3 := hL.l.grown g3
  rw [HVL.out] at hR3
  have hw3 := (g3.block _ (lt_of_heap hL.cp) (by simp)).trans hL.cp
  have nwl : (Value.slice al L.prs.length cl).ownBlock ≠ some wb := by rw [← HVL.out]; exact hL.l.neBlk hL.cp (by decide)
  have hwlt : wb < w2.heap.size := lt_of_heap hL.cp
  go_wp2_with (at_builtin; refine wpList_row Tryz.underlying29 infoTwo rfl (by decide) rfl _ _ rfl (.slice al L.prs.length cl) _ rfl hR3 _ _ rfl hS3 (two_len _) (two_one _) (by unfold maxLen; simp; omega) (by simp; omega) ?_; intro v' w4 hR4 hg4 hat; have k4 := (hg4.block _ (lt_of_heap hw3) (Ne.symm nwl)).trans hw3; have c4 : w4.cell? ⟨wb, 0, none⟩ = some (.slice al L.prs.length cl) := (cell_blk k4 0).trans (congrArg some HVL.out); have f4 : w4.frozen? ⟨wb, 0, none⟩ = false := frozen_blk k4 0; obtain ⟨a', c', hv', -⟩ := hR4.value; generalize hn3 : (L.prs.map twoCells ++ [x].map twoCells).length = n3 at hv'; clear hn3; subst hv')
  go_ret
  refine ⟨rfl, .slice a' n3 c', x, h.more hb (hP.kept (fun k hk => ?_)) hxn ((set_blk k4).trans rfl) ?_ ?_ ?_⟩
  · have hk1 := hP.lt k hk
    have hk2 := hxn k hk
    have hk3 : k ≠ wb := by have := lt_of_heap h.cp; omega
    rw [Below.heap_setCell _ _ _ _ hk3, hg4.block k (by simp; omega) (fun q => by rw [← HVL.out] at q; have := h.l.lt q.symm; omega)]
    exact g3.block k hk1 (by simp)
  · rw [List.map_append]
    refine hR4.kept (fun q hq => Below.heap_setCell _ _ _ _ (fun e => ?_))
    subst e
    rcases hat with hat | hat
    · exact nwl (hat ▸ hq)
    · rw [hat] at hq
      simp only [Option.some.injEq, World.size_alloc] at hq
      omega
  · exact ((((Fr.refl _ w).grown hG (by simp)).grown g3 (by simp)).grown hg4 (fun k hk => .inl (by rw [← HVL.out] at hk; simp [hk]))).setCell (p := ⟨wb, 0, none⟩) (.inl (by simp)) _
  · intro k hk
    rw [← HVL.out] at hat
    rcases hat with hat | hat
    · exact .inl (hat ▸ hk)
    · rw [hat] at hk
      simp only [Option.some.injEq, World.size_alloc] at hk
      have := hG.size
      exact .inr ⟨by omega, fun q => by have := hP.lt k q; omega⟩

end Go.Proofs.YtachmkhbbbmioaaGreat

namespace Go.Proofs.YtachmkhbbbmioaaGreat
open Go.RowKit Go.Shelf

theorem packs_len (n : Nat) : ∀ (l sm : List OpR), (packs n sm l).length ≤ l.length + 1
  | [], sm => by unfold packs; split <;> simp
  | x :: l, sm => by
    rw [packs_cons]
    have h1 := packs_len n l [x]
    have h2 := packs_len n l (sm ++ [x])
    split
    · simp only [List.length_cons]; omega
    · simp only [List.length_cons]; omega

theorem answers_len {S : CS} (hG : Good S) (ho : OpsOk S) (q : Nat → Int) (hq : ∀ i, i < S.n → 0 ≤ q i ∧ q i ≤ 100) : (answers S.n (miss S q)).length ≤ 1000 := by
  have h1 := missTo_len hG ho q (fun i hi => (hq i hi).1) S.n (Nat.le_refl _)
  have h2 := packs_len S.n (miss S q) []
  have h8 := hG.n8
  unfold answers
  rw [List.length_map]
  have : (miss S q).length ≤ 100 * S.n := h1
  omega

theorem batch_ne (n : Nat) (l : List OpR) : batch n l ≠ [] := by
  intro q
  have := congrArg List.length q
  unfold batch at this
  rw [seal_len] at this
  simp at this

/-- A datagram: not empty, and not too long to be looked at. -/
def SOk (s : List UInt8) : Prop := s ≠ [] ∧ s.length ≤ 400000

theorem packs_mem (n : Nat) : ∀ (l sm : List OpR), ∀ m ∈ packs n sm l, m.length ≤ sm.length + l.length ∧ ∀ x ∈ m, x ∈ sm ∨ x ∈ l
  | [], sm, m, hm => by
    unfold packs at hm
    split at hm
    · cases hm
    · rw [List.mem_singleton.1 hm]; exact ⟨by simp, fun x hx => .inl hx⟩
  | y :: l, sm, m, hm => by
    rw [packs_cons] at hm
    split at hm
    · rcases List.mem_cons.1 hm with rfl | hm
      · exact ⟨by simp, fun x hx => .inl hx⟩
      · obtain ⟨h1, h2⟩ := packs_mem n l [y] m hm
        refine ⟨by simp at h1 ⊢; omega, fun x hx => ?_⟩
        rcases h2 x hx with q | q
        · rw [List.mem_singleton.1 q]; exact .inr (by simp)
        · exact .inr (by simp [q])
    · obtain ⟨h1, h2⟩ := packs_mem n l (sm ++ [y]) m hm
      refine ⟨by simp at h1 ⊢; omega, fun x hx => ?_⟩
      rcases h2 x hx with q | q
      · rcases List.mem_append.1 q with q | q
        · exact .inl q
        · rw [List.mem_singleton.1 q]; exact .inr (by simp)
      · exact .inr (by simp [q])

theorem answers_ok {S : CS} (hG : Good S) (ho : OpsOk S) (q : Nat → Int) (hq : ∀ i, i < S.n → 0 ≤ q i ∧ q i ≤ 100) : ∀ s ∈ answers S.n (miss S q), SOk s := by
  intro s hs
  obtain ⟨m, hm, rfl⟩ := List.mem_map.1 hs
  have h1 : (miss S q).length ≤ 100 * S.n := missTo_len hG ho q (fun i hi => (hq i hi).1) S.n (Nat.le_refl _)
  have h8 := hG.n8
  obtain ⟨h2, h3⟩ := packs_mem S.n _ _ m hm
  have h4 := flat_len_op h8 m (fun x hx => by
    rcases h3 x hx with z | z
    · cases z
    · exact (ho.ok x (miss_mem z)).1)
  have h5 := vb_len 1 m.length (by simp at h2; omega)
  refine ⟨batch_ne _ _, ?_⟩
  unfold batch
  rw [seal_len, List.length_cons, List.length_append]
  simp at h2
  omega

theorem digest_ok (n : Nat) (h8 : n ≤ 8) (s : Int) (hs : s < 4611686018427387904) (q : Nat → Int) (hq : ∀ i, i < n → q i ≤ 100) : SOk (digest n s q) := by
  have h1 := vbs_len (s :: clk n q) (fun x hx => by
    rcases List.mem_cons.1 hx with rfl | hx
    · omega
    · obtain ⟨i, hi, rfl⟩ := List.mem_map.1 hx
      have := hq i (List.mem_range.1 hi)
      omega)
  rw [List.length_cons, clk_len] at h1
  refine ⟨fun e => ?_, ?_⟩
  · have := congrArg List.length e
    unfold digest at this
    rw [seal_len] at this
    simp at this
  · unfold digest
    rw [seal_len, List.length_cons]
    omega

/-- What an act has made of the world. -/
structure Next (L L' : LS) (m : Nat) : Prop where
  vl : L'.vl = L.vl
  prs : L'.prs.length = L.prs.length
  irs : L'.irs.length ≤ L.irs.length + 1
  trs : L'.trs.length ≤ L.trs.length + 1
  air : L'.air.length ≤ L.air.length + m
  ne : (∀ s ∈ L.air, SOk s) → ∀ s ∈ L'.air, SOk s

set_option maxRecDepth 100000 in
set_option maxHeartbeats 4000000 in
/-- Handle of a digest, on both sides. -/
theorem handles_d (base wb : Nat) (L : LS) (j : Nat) (x : Pr) (w : World) (h0 : WAt base wb L w) (hj : L.prs[j]? = some x) (hb0 : base ≤ w.heap.size) (hlen : L.trs.length ≤ 2000000) (hair : L.air.length ≤ 4000000000)
    (s : Int) (hs1 : 1 ≤ s) (hsn : s ≤ x.S.n) (q : Nat → Int) (hq : ∀ i, i < x.S.n → 0 ≤ q i ∧ q i ≤ 100) :
    Calls Tryz.prog 14 #[.pointer (some ⟨wb, 0, none⟩), .agg #[.pointer (some ⟨x.cb, 0, none⟩), .pointer (some ⟨x.yb, 0, none⟩)], str (digest x.S.n s q)] w fun e w' => e = .returned (.bool true) ∧ ∃ L', Next L L' 1000 ∧ WAt base wb L' w' ∧ Below base w w' := by
  have g1 : w.grownBy (w.alloc (.cells #[.pointer (some ⟨x.cb, 0, none⟩), .pointer (some ⟨x.yb, 0, none⟩)] 39)) none := grown_alloc (grown_refl _) _
  have k1 : (w.alloc (.cells #[.pointer (some ⟨x.cb, 0, none⟩), .pointer (some ⟨x.yb, 0, none⟩)] 39)).heap[w.heap.size]? = some (.cells #[.pointer (some ⟨x.cb, 0, none⟩), .pointer (some ⟨x.yb, 0, none⟩)] 39) := by
    rw [heap_alloc_at]; simp
  have n1 : w.heap.size ∉ x.own := fun p => by have := (h0.pr j x hj).lt _ p; omega
  have hB1 : Below base w (w.alloc (.cells #[.pointer (some ⟨x.cb, 0, none⟩), .pointer (some ⟨x.yb, 0, none⟩)] 39)) := (Below.refl _ w).grown g1 hb0 (by simp)
  have hal := answers_len (h0.pr j x hj).good (h0.pr j x hj).ops q hq
  have hane := hide (answers_ok (h0.pr j x hj).good (h0.pr j x hj).ops q hq)
  have HP := hide (fun (w1 : World) (hp : PairAt x w1) => hand_prog x s hs1 hsn q hq w1 hp)
  have HF := hide (fun (w1 : World) (hp : PairAt x w1) => hand_ref x s hs1 hsn q hq w1 hp)
  generalize answers x.S.n (miss x.S q) = AN at hal HP HF hane
  generalize digest x.S.n s q = D at HP HF ⊢
  clear hq hs1 hsn
  go_enter Tryz.func14, Tryz.ntmps14
  go_upto_region 1 with fail
  generalize (w.alloc (.cells #[.pointer (some ⟨x.cb, 0, none⟩), .pointer (some ⟨x.yb, 0, none⟩)] 39)) = w1 at g1 k1 hB1 ⊢
  have h := h0.grown g1
  have hb : base ≤ w1.heap.size := Nat.le_trans hb0 g1.size
  clear h0 hb0 g1
  generalize w.heap.size = b1 at k1 n1 ⊢
  have hP := h.pr j x hj
  have hgl := hide h.lts
  have d0 : w1.cell? ⟨b1, 0, none⟩ = some (.pointer (some ⟨x.cb, 0, none⟩)) := cell_blk k1 0
  have HP1 := hide (HP.out w1 hP)
  clear HP
  go_wp2_with fail
  refine HP1.out.mono ?_
  rintro e w2 ⟨v2, rfl, hR2, hO2, hP2, hF2⟩
  obtain ⟨hL2, hB2⟩ := h.same hj hb hP2 hF2
  have kk1 := hF2.blk k1 n1
  have dd1 : w2.cell? ⟨b1, 1, none⟩ = some (.pointer (some ⟨x.yb, 0, none⟩)) := cell_blk kk1 1
  have HF1 := hide (HF.out w2 hP2)
  have hs2 := hF2.size
  clear HF HP1
  go_wp2_with fail
  refine HF1.out.mono ?_
  rintro e w3 ⟨v3, rfl, hR3, g3, hO3⟩
  have hL3 := hL2.grown g3
  have hR23 := hR2.grown g3
  have HS := hide (same_texts AN (by omega) v2 v3 w3 hR23 hR3)
  clear HF1
  go_wp2_with fail
  refine HS.out.mono ?_
  rintro e w4 ⟨rfl, g4⟩
  have hL4 := hL3.grown g4
  have hR24 := hR23.grown g4
  have hR34 := hR3.grown g4
  have hv23 : ∀ g, v3.ownBlock = some g → v2.ownBlock ≠ some g := fun g hg p => by have h1 := hO3 g hg; have h2 := hR2.lt p; omega
  have hs4 : w1.heap.size ≤ w4.heap.size := Nat.le_trans hs2 (Nat.le_trans g3.size g4.size)
  have hK := hide (keep_texts wb L.vl L.va L.vi L.vt L.trs v2 (strRow AN) w4 hL4.cp hL4.t hR24 (by rw [strRow_len]; exact hal) hlen)
  clear HS
  go_wp2_with fail
  refine hK.out.mono ?_
  rintro e w5 ⟨rfl, r, vt', hT, hc, hrow, hF5, hr5, hv5⟩
  obtain ⟨hL5, hB5⟩ := hL4.keepT hgl.out hO2 hb hs4 hT hc hrow hF5 hr5 hv5
  have hR35 : RowAt 9 1 v3 (strRow AN) w5 := hR34.kept (fun g hg => hF5.block g (hR34.lt hg) (fun p => by
    simp only [List.mem_cons, List.mem_append, Option.mem_toList] at p
    rcases p with p | p | p
    · exact hR34.neBlk hL4.cp (by decide) (p ▸ hg)
    · exact hv23 g hg p
    · exact hR34.ne hL4.t (by decide) hg p))
  have hBB : Below base w w5 := (((hB1.trans hB2).grown g3 (Nat.le_trans hb hs2) (by simp)).grown g4 (Nat.le_trans hb (Nat.le_trans hs2 g3.size)) (by simp)).trans hB5
  have hb5 : base ≤ w5.heap.size := Nat.le_trans hb (Nat.le_trans hs4 hF5.size)
  -- the air
  obtain ⟨aa, ca, hva, -⟩ := hL5.ar.value
  have y1 : w5.cell? ⟨wb, 1, none⟩ = some L.va := cell_blk hL5.cp 1
  have hva' : L.va = .slice aa L.air.length ca := by rw [strRow_len] at hva; exact hva
  rw [hva'] at y1
  have HVA := hide hva'
  clear hva hva'
  obtain ⟨a3, c3, hv3, -⟩ := hR35.value
  rw [strRow_len] at hv3
  subst hv3
  have hs35 := hR35.src
  have nwa : L.va.ownBlock ≠ some wb := hL5.ar.neBlk hL5.cp (by decide)
  have lA : (strRow L.air).length ≤ 4000000000 := by rw [strRow_len]; exact hair
  have lB : (strRow AN).length ≤ 1000 := by rw [strRow_len]; exact hal
  have hRa := hL5.ar
  have hRa' : RowAt 9 1 (.slice aa L.air.length ca) (strRow L.air) w5 := by rw [← HVA.out]; exact hRa
  have hcp5 := hL5.cp
  have HRa := hide hRa
  clear hK hRa hR34 hR24 hR23 hR2 hR3
  go_wp2_with (at_builtin; refine wpList_row Tryz.underlying26 infoStr rfl (by decide) rfl _ _ rfl _ _ rfl hRa' _ _ rfl hs35 (strRow_one _) (strRow_cell _) (by unfold maxLen; omega) (by omega) ?_; intro v6 w6 hR6 hg6 hat; have k6 := (hg6.block _ (lt_of_heap hcp5) (fun p => nwa (by rw [HVA.out]; exact p.symm))).trans hcp5; have c6 : w6.cell? ⟨wb, 1, none⟩ = some (.slice aa L.air.length ca) := (cell_blk k6 1).trans (congrArg some HVA.out); have f6 : w6.frozen? ⟨wb, 1, none⟩ = false := frozen_blk k6 1; obtain ⟨a6, c7, hv6, -⟩ := hR6.value; generalize hn6 : (strRow L.air ++ strRow AN).length = n6 at hv6; clear hn6; subst hv6)
  go_ret
  rw [← strRow_append] at hR6
  rw [← HVA.out] at hg6 hat
  have hn6 : (Value.slice a6 n6 c7).ownBlock ≠ some wb := hR6.neBlk k6 (by decide)
  obtain ⟨hL7, hB7⟩ := hL5.aired (w' := w6.setCell ⟨wb, 1, none⟩ (.slice a6 n6 c7)) (va' := .slice a6 n6 c7) (air' := L.air ++ AN) hb5 ((set_blk k6).trans rfl) (hR6.kept (fun g hg => Below.heap_setCell _ _ _ _ (fun e => hn6 (by have e' : g = wb := e; rw [← e']; exact hg)))) ((((Fr.refl _ w5).grown hg6 (fun k hk => .inl (List.mem_cons_of_mem _ (Option.mem_toList.2 hk)))) : Fr (wb :: L.va.ownBlock.toList) w5 w6).setCell (p := ⟨wb, 1, none⟩) (.inl (by simp)) _) (fun k hk => by
    rcases hat with hat | hat
    · exact .inl (hat ▸ hk)
    · rw [hat] at hk; cases hk; exact .inr (Nat.le_refl _))
  refine ⟨rfl, _, ?_, hL7, hBB.trans hB7⟩
  exact ⟨rfl, rfl, Nat.le_succ _, by simp, by simpa using hal, fun hn s hs => (List.mem_append.1 hs).elim (hn s) (hane.out s)⟩

end Go.Proofs.YtachmkhbbbmioaaGreat

namespace Go.Proofs.YtachmkhbbbmioaaGreat
open Go.RowKit Go.Shelf Go.MuLone

abbrev own6 (cb sb ma mp mb : Nat) : List Nat := [cb, sb, ma, mp, mb]

set_option maxRecDepth 100000 in
set_option maxHeartbeats 1000000 in
theorem face_hand2 (cb sb ma mp lb mb : Nat) (S : CS) (D : Value) (v : Value) (code : Int) (w : World) (h : CpAt cb sb ma mp lb mb S w) (Post : World → Prop)
    (hin : ∀ w1, w1.heap.size = w.heap.size → StAt sb ma mp lb mb S w1 → Calls Tryz.prog 64 #[.pointer (some ⟨sb, 0, none⟩), D] w1 fun e w2 => e = .returned (.tuple #[v, .int .i64 code]) ∧ Post w2 ∧ Fr (own5 sb ma mp mb) w1 w2) :
    Calls Tryz.prog 31 #[.pointer (some ⟨cb, 0, none⟩), D] w fun e w' => e = .returned (.tuple #[v, .int .i64 code]) ∧ ∃ w2, Post w2 ∧ w2.heap[cb]? = some (.cells #[.int .i32 1, .int .u32 0, .pointer (some ⟨sb, 0, none⟩)] 112) ∧ w' = w2.setCell ⟨cb, 0, none⟩ (.int .i32 0) ∧ Fr (own6 cb sb ma mp mb) w w' := by
  have c0 : w.cell? ⟨cb, 0, none⟩ = some (.int .i32 0) := cell_blk h.cp 0
  have f0 : w.frozen? ⟨cb, 0, none⟩ = false := frozen_blk h.cp 0
  obtain ⟨n1, n2, n3, n4, n5⟩ := h.ne
  have hS1 := h.locked (.int .i32 1)
  have k1 : (w.setCell ⟨cb, 0, none⟩ (.int .i32 1)).heap[cb]? = some (.cells #[.int .i32 1, .int .u32 0, .pointer (some ⟨sb, 0, none⟩)] 112) := by rw [set_blk h.cp]; rfl
  have c2 : (w.setCell ⟨cb, 0, none⟩ (.int .i32 1)).cell? ⟨cb, 2, none⟩ = some (.pointer (some ⟨sb, 0, none⟩)) := cell_blk k1 2
  have hF1 : Fr (own6 cb sb ma mp mb) w (w.setCell ⟨cb, 0, none⟩ (.int .i32 1)) := (Fr.refl _ w).setCell (.inl (by simp)) _
  have hC := hide (hin (w.setCell ⟨cb, 0, none⟩ (.int .i32 1)) (by simp [World.setCell]) hS1)
  clear hin
  go_enter_defers Tryz.func31, Tryz.ntmps31
  go_wp2_with (go_at_call 59; refine (lock_free muLib ⟨cb, 0, none⟩ _ c0 f0).mono ?_; rintro e w' ⟨rfl, rfl⟩)
  refine hC.out.mono ?_
  rintro e w2 ⟨rfl, hP, hF2⟩
  have k2 : w2.heap[cb]? = some (.cells #[.int .i32 1, .int .u32 0, .pointer (some ⟨sb, 0, none⟩)] 112) := hF2.blk k1 (by simp [n1, n2, n3, n5])
  go_wp2_with fail
  refine leaves_cons (f := 60) (args := #[.pointer (some ⟨cb, 0, none⟩)]) (by simp) (by simp [go_sem]) ?_
  refine (unlock_deferred muLib ⟨cb, 0, none⟩ .returning _ (cell_blk k2 0) (frozen_blk k2 0)).mono ?_
  rintro e u' w3 ⟨rfl, rfl, rfl⟩
  exact ⟨.tuple #[v, .int .i64 code], by simp [results, Tryz.results31, go_sem], rfl, w2, hP, k2, rfl, (hF1.trans (hF2.mono (by simp))).setCell (.inl (by simp)) _⟩

theorem PairAt.inv {x : Pr} {w : World} (h : PairAt x w) : Inv x.S := ⟨h.good, h.ops, h.wo, h.len, by rw [← h.lg.len]; exact h.log, h.apart⟩

theorem PairAt.rb {x : Pr} {w w1 : World} (h : PairAt x w) (hF : Fr (own6 x.cb x.sb x.ma x.mp x.mb) w w1) : RB x.yb x.S x.vc x.vl x.vw x.vL x.log x.wr x.ks w1 := by
  have hs := sep_of h.cp h.rf
  have hk : ∀ k ∈ x.ks, w1.heap[k]? = w.heap[k]? := fun k hk => by
    obtain ⟨c, hc⟩ := h.lg.blk k hk
    exact hF.block k (lt_of_heap hc) (fun q => sep_ks h.cp hc (by revert q; simp only [List.mem_cons, List.not_mem_nil, or_false]; omega))
  exact ⟨h.rf.kept (fun k hk => hF.block k (h.rf.lt k hk) (fun q => hs k hk (by revert q; simp only [List.mem_cons, List.not_mem_nil, or_false]; omega))), h.lg.kept hk, h.wl.kept hk, h.kd⟩

/-- As After; and where the copy has been turned the answer is empty. -/
def AfterV (x : Pr) (v : Value) (w w2 : World) : Prop := ∃ x' : Pr, PairAt x' w2 ∧ x'.cb = x.cb ∧ x'.yb = x.yb ∧ Fr x.own w w2 ∧ OwnFrom x.own x'.own w.heap.size ∧ (x' = x ∨ v.ownBlock = none)

/-- Handle on both sides, one after the other: the same answers, the same code. -/
def HandAny (x : Pr) (D : List UInt8) (AN : List (List UInt8)) (code : Int) : Prop := ∀ w, PairAt x w →
  Calls Tryz.prog 31 #[.pointer (some ⟨x.cb, 0, none⟩), str D] w fun e w1 => ∃ v, e = .returned (.tuple #[v, .int .i64 code]) ∧ RowAt 9 1 v (strRow AN) w1 ∧ (∀ g, v.ownBlock = some g → w.heap.size ≤ g) ∧ Fr x.own w w1 ∧
    Calls Tryz.prog 37 #[.pointer (some ⟨x.yb, 0, none⟩), str D] w1 fun e w2 => ∃ v2, e = .returned (.tuple #[v2, .int .i64 code]) ∧ RowAt 9 1 v2 (strRow AN) w2 ∧ (∀ g, v2.ownBlock = some g → w1.heap.size ≤ g) ∧ RowAt 9 1 v (strRow AN) w2 ∧ AfterV x v w w2

theorem own6_sub (x : Pr) : ∀ k ∈ own6 x.cb x.sb x.ma x.mp x.mb, k ∈ x.own := by
  intro k hk
  simp only [List.mem_cons, List.not_mem_nil, or_false] at hk
  refine List.mem_append_left _ ?_
  simp
  omega

theorem strNil (w : World) : RowAt 9 1 (.slice none 0 0) (strRow []) w := row_nil 9 1 w

theorem hand_no (x : Pr) (D : List UInt8) (hD : NoFr x.S.n D) : HandAny x D [] 6 := by
  intro w h
  refine (face_hand2 x.cb x.sb x.ma x.mp x.lb x.mb x.S (str D) (.slice none 0 0) 6 w h.cp (fun w2 => StAt x.sb x.ma x.mp x.lb x.mb x.S w2) (fun w1 _ hS => ?_)).mono ?_
  · refine (stHandNo _ _ _ _ _ x.S h.good D hD w1 hS).mono ?_
    rintro e w2 ⟨rfl, hg⟩
    exact ⟨rfl, hS.grown hg, (Fr.refl _ _).grown hg (by simp)⟩
  · rintro e w' ⟨rfl, w2, hS2, hk, rfl, hF⟩
    have hrb := h.rb hF
    have hc := CpAt.unlock hS2 hk
    refine ⟨_, rfl, strNil _, (by simp [Value.ownBlock]), hF.mono (own6_sub x), (ref_handNo x.yb x.S h.good _ _ _ _ _ _ D hD _ hrb.rf).mono ?_⟩
    rintro e w3 ⟨rfl, hg⟩
    refine ⟨_, rfl, strNil _, (by simp [Value.ownBlock]), strNil _, x, ?_, rfl, rfl, (hF.mono (own6_sub x)).grown hg (by simp), fun k hk => .inl hk, .inl rfl⟩
    have hrb3 := hrb.grown hg
    exact ⟨hc.kept (fun k hk => hg.block k (hc.lt k hk) (by simp)), hrb3.rf, h.good, h.len, h.log, h.ops, hrb3.lg, h.kd, hrb3.wl, h.wo⟩

theorem hand_bat (x : Pr) (l : List OpR) (hl : bOk x.S.n l) (h120 : (sealB (66 :: bEnc x.S.n l)).length ≤ 120) : HandAny x (sealB (66 :: bEnc x.S.n l)) [] 0 := by
  intro w h
  have hI := h.inv
  refine (face_hand2 x.cb x.sb x.ma x.mp x.lb x.mb x.S (str (sealB (66 :: bEnc x.S.n l))) (.slice none 0 0) 0 w h.cp (fun w2 => StAt x.sb x.ma x.mp x.lb x.mb (takesAll x.S l) w2) (fun w1 _ hS => ?_)).mono ?_
  · exact stHandBat _ _ _ _ _ x.S hI l hl w1 hS h120
  · rintro e w' ⟨rfl, w2, hS2, hk, rfl, hF⟩
    have hrb := h.rb hF
    have hc := CpAt.unlock hS2 hk
    have hI' := inv_takesAll l hI hl.2
    have hn := (takesAll_n x.S l).1
    refine ⟨_, rfl, strNil _, (by simp [Value.ownBlock]), hF.mono (own6_sub x), (ref_handBat x.yb x.S hI _ _ _ _ _ _ x.ks l hl _ hrb h120).mono ?_⟩
    rintro e w3 ⟨rfl, vl', vw', vL', log', wr', K, hB, hF3, hO3, hK⟩
    have hs := sep_of hc hrb.rf
    have hc3 := hc.kept (w' := w3) (fun k hk => hF3.block k (hc.lt k hk) (fun q => hs k q hk))
    refine ⟨_, rfl, strNil _, (by simp [Value.ownBlock]), strNil _, { x with S := takesAll x.S l, vl := vl', vw := vw', vL := vL', log := log', wr := wr', ks := x.ks ++ K }, ?_, rfl, rfl, ?_, fun k hk => ?_, .inr rfl⟩
    · exact ⟨hc3, hB.rf, hI'.good, hI'.len, by show (log'.length : Int) ≤ _; rw [hB.lg.len]; exact hI'.lops, hI'.ops, hB.lg, hB.kd, hB.wl, hI'.wo⟩
    · exact (hF.mono (own6_sub x)).trans (hF3.mono (fun k hk => List.mem_append_right _ (List.mem_append_left _ hk)))
    · rcases List.mem_append.1 hk with hk | hk
      · exact .inl (List.mem_append_left _ hk)
      · rcases List.mem_append.1 hk with hk | hk
        · exact (hO3 k hk).imp (fun q => List.mem_append_right _ (List.mem_append_left _ q)) (fun q => Nat.le_trans hF.size q)
        · rcases List.mem_append.1 hk with hk | hk
          · exact .inl (List.mem_append_right _ (List.mem_append_right _ hk))
          · exact .inr (Nat.le_trans hF.size (hK k hk))

theorem hand_dig (x : Pr) (s : Int) (hs1 : 1 ≤ s) (hsn : s ≤ x.S.n) (q : Nat → Int) (hq : ∀ i, i < x.S.n → 0 ≤ q i ∧ q i ≤ 100) : HandAny x (digest x.S.n s q) (answers x.S.n (miss x.S q)) 0 := by
  intro w h
  refine (hand_prog x s hs1 hsn q hq w h).mono ?_
  rintro e w1 ⟨v, rfl, hR, hO, hP, hF⟩
  refine ⟨v, rfl, hR, hO, hF, (hand_ref x s hs1 hsn q hq w1 hP).mono ?_⟩
  rintro e w2 ⟨v2, rfl, hR2, hg, hO2⟩
  exact ⟨v2, rfl, hR2, hO2, hR.grown hg, x, hP.kept (fun k hk => hg.block k (hP.lt k hk) (by simp)), rfl, rfl, hF.grown hg (by simp), fun k hk => .inl hk, .inl rfl⟩

theorem dig_enc (n : Nat) (s : Int) (q : Nat → Int) : sealB (68 :: dEnc n (s, q)) = digest n s q := rfl

/-- Handle of anything. -/
theorem hand_any (x : Pr) (w : World) (h : PairAt x w) (D : List UInt8) : ∃ AN code, HandAny x D AN code ∧ AN.length ≤ 1000 ∧ ∀ s ∈ AN, SOk s := by
  by_cases hd : ∃ d, dOk x.S.n d ∧ D.length ≤ 120 ∧ D = sealB (68 :: dEnc x.S.n d)
  · obtain ⟨⟨s, q⟩, hd, -, rfl⟩ := hd
    have hq : ∀ i, i < x.S.n → 0 ≤ q i ∧ q i ≤ 100 := hd.2.1
    rw [dig_enc]
    refine ⟨_, _, hand_dig x s hd.1.1 hd.1.2 q hq, answers_len h.good h.ops q hq, answers_ok h.good h.ops q hq⟩
  · by_cases hb : ∃ l, bOk x.S.n l ∧ D.length ≤ 120 ∧ D = sealB (66 :: bEnc x.S.n l)
    · obtain ⟨l, hb, h120, rfl⟩ := hb
      exact ⟨_, _, hand_bat x l hb h120, by simp, by simp⟩
    · exact ⟨_, _, hand_no x D ⟨fun d h1 h2 h3 => hd ⟨d, h1, h2, h3⟩, fun l h1 h2 h3 => hb ⟨l, h1, h2, h3⟩⟩, by simp, by simp⟩

end Go.Proofs.YtachmkhbbbmioaaGreat

namespace Go.Proofs.YtachmkhbbbmioaaGreat
open Go.RowKit Go.Shelf

set_option maxRecDepth 100000 in
set_option maxHeartbeats 4000000 in
/-- Handle of anything, on both sides. -/
theorem handles_any (base wb : Nat) (L : LS) (j : Nat) (x : Pr) (w : World) (h0 : WAt base wb L w) (hj : L.prs[j]? = some x) (hb0 : base ≤ w.heap.size) (hlen : L.trs.length ≤ 2000000) (hair : L.air.length ≤ 4000000000)
    (D : List UInt8) :
    Calls Tryz.prog 14 #[.pointer (some ⟨wb, 0, none⟩), .agg #[.pointer (some ⟨x.cb, 0, none⟩), .pointer (some ⟨x.yb, 0, none⟩)], str D] w fun e w' => e = .returned (.bool true) ∧ ∃ L', Next L L' 1000 ∧ WAt base wb L' w' ∧ Below base w w' ∧ ∀ k, k < w.heap.size → k ≠ wb → k ∉ x.own → L.vt.ownBlock ≠ some k → L.va.ownBlock ≠ some k → w'.heap[k]? = w.heap[k]? := by
  have g1 : w.grownBy (w.alloc (.cells #[.pointer (some ⟨x.cb, 0, none⟩), .pointer (some ⟨x.yb, 0, none⟩)] 39)) none := grown_alloc (grown_refl _) _
  have k1 : (w.alloc (.cells #[.pointer (some ⟨x.cb, 0, none⟩), .pointer (some ⟨x.yb, 0, none⟩)] 39)).heap[w.heap.size]? = some (.cells #[.pointer (some ⟨x.cb, 0, none⟩), .pointer (some ⟨x.yb, 0, none⟩)] 39) := by
    rw [heap_alloc_at]; simp
  have n1 : w.heap.size ∉ x.own := fun p => by have := (h0.pr j x hj).lt _ p; omega
  have hB1 : Below base w (w.alloc (.cells #[.pointer (some ⟨x.cb, 0, none⟩), .pointer (some ⟨x.yb, 0, none⟩)] 39)) := (Below.refl _ w).grown g1 hb0 (by simp)
  obtain ⟨AN, code, HA0, hal, hane0⟩ := hand_any x w (h0.pr j x hj) D
  have HA := hide HA0
  have hane := hide hane0
  clear HA0 hane0
  go_enter Tryz.func14, Tryz.ntmps14
  go_upto_region 1 with fail
  generalize (w.alloc (.cells #[.pointer (some ⟨x.cb, 0, none⟩), .pointer (some ⟨x.yb, 0, none⟩)] 39)) = w1 at g1 k1 hB1 ⊢
  have h := h0.grown g1
  have hb : base ≤ w1.heap.size := Nat.le_trans hb0 g1.size
  have HG1 := hide g1
  clear h0 hb0 g1
  obtain ⟨b1, hb1e⟩ : ∃ b1, w.heap.size = b1 := ⟨_, rfl⟩
  rw [hb1e] at k1 n1 ⊢
  have HB1 := hide hb1e
  clear hb1e
  have hP := h.pr j x hj
  have hgl := hide h.lts
  have d0 : w1.cell? ⟨b1, 0, none⟩ = some (.pointer (some ⟨x.cb, 0, none⟩)) := cell_blk k1 0
  have HP1 := hide (HA.out w1 hP)
  clear HA
  go_wp2_with fail
  refine HP1.out.mono ?_
  rintro e w2 ⟨v2, rfl, hR2, hO2, hF2, HF0⟩
  have HF1 := hide HF0
  have kk1 := hF2.blk k1 n1
  have dd1 : w2.cell? ⟨b1, 1, none⟩ = some (.pointer (some ⟨x.yb, 0, none⟩)) := cell_blk kk1 1
  have hs2 := hF2.size
  clear HP1 HF0
  go_wp2_with fail
  refine HF1.out.mono ?_
  rintro e w3 ⟨v3, rfl, hR3, hO3, hR23, x', hP3, hx1, hx2, hF3, hO33, hcase⟩
  obtain ⟨hL3, hB2⟩ := h.after hj hb hP3 hx1 hx2 hF3 hO33
  have hs3 : w1.heap.size ≤ w3.heap.size := hF3.size
  obtain ⟨H, HH⟩ : ∃ H, Hid (WLt H wb { L with prs := L.prs.set j x' } ∧ (∀ g, v2.ownBlock = some g → H ≤ g) ∧ base ≤ H ∧ H ≤ w3.heap.size) := by
    rcases hcase with q | q
    · exact ⟨w1.heap.size, hide ⟨by rw [q, set_self hj]; exact hgl.out, hO2, hb, hs3⟩⟩
    · exact ⟨w3.heap.size, hide ⟨hL3.lts, fun g hg => (by rw [q] at hg; cases hg), Nat.le_trans hb hs3, Nat.le_refl _⟩⟩
  clear hcase
  have HS := hide (same_texts AN (by omega) v2 v3 w3 hR23 hR3)
  clear HF1
  go_wp2_with fail
  refine HS.out.mono ?_
  rintro e w4 ⟨rfl, g4⟩
  have hL4 := hL3.grown g4
  have hR24 := hR23.grown g4
  have hR34 := hR3.grown g4
  have hv23 : ∀ g, v3.ownBlock = some g → v2.ownBlock ≠ some g := fun g hg p => by have h1 := hO3 g hg; have h2 := hR2.lt p; omega
  have hs4 : w1.heap.size ≤ w4.heap.size := Nat.le_trans hs3 g4.size
  have hK := hide (keep_texts wb L.vl L.va L.vi L.vt L.trs v2 (strRow AN) w4 hL4.cp hL4.t hR24 (by rw [strRow_len]; exact hal) hlen)
  clear HS
  go_wp2_with fail
  refine hK.out.mono ?_
  rintro e w5 ⟨rfl, r, vt', hT, hc, hrow, hF5, hr5, hv5⟩
  obtain ⟨hL5, hB5⟩ := hL4.keepT HH.out.1 HH.out.2.1 HH.out.2.2.1 (Nat.le_trans HH.out.2.2.2 g4.size) hT hc hrow hF5 hr5 hv5
  have hR35 : RowAt 9 1 v3 (strRow AN) w5 := hR34.kept (fun g hg => hF5.block g (hR34.lt hg) (fun p => by
    simp only [List.mem_cons, List.mem_append, Option.mem_toList] at p
    rcases p with p | p | p
    · exact hR34.neBlk hL4.cp (by decide) (p ▸ hg)
    · exact hv23 g hg p
    · exact hR34.ne hL4.t (by decide) hg p))
  have hBB : Below base w w5 := ((hB1.trans hB2).grown g4 (Nat.le_trans hb hs3) (by simp)).trans hB5
  have hb5 : base ≤ w5.heap.size := Nat.le_trans hb (Nat.le_trans hs4 hF5.size)
  -- the air
  obtain ⟨aa, ca, hva, -⟩ := hL5.ar.value
  have y1 : w5.cell? ⟨wb, 1, none⟩ = some L.va := cell_blk hL5.cp 1
  have hva' : L.va = .slice aa L.air.length ca := by rw [strRow_len] at hva; exact hva
  rw [hva'] at y1
  have HVA := hide hva'
  clear hva hva'
  obtain ⟨a3, c3, hv3, -⟩ := hR35.value
  rw [strRow_len] at hv3
  subst hv3
  have hs35 := hR35.src
  have nwa : L.va.ownBlock ≠ some wb := hL5.ar.neBlk hL5.cp (by decide)
  have lA : (strRow L.air).length ≤ 4000000000 := by rw [strRow_len]; exact hair
  have lB : (strRow AN).length ≤ 1000 := by rw [strRow_len]; exact hal
  have hRa := hL5.ar
  have hRa' : RowAt 9 1 (.slice aa L.air.length ca) (strRow L.air) w5 := by rw [← HVA.out]; exact hRa
  have hcp5 := hL5.cp
  have HRa := hide hRa
  clear hK hRa hR34 hR24 hR23 hR2 hR3
  go_wp2_with (at_builtin; refine wpList_row Tryz.underlying26 infoStr rfl (by decide) rfl _ _ rfl _ _ rfl hRa' _ _ rfl hs35 (strRow_one _) (strRow_cell _) (by unfold maxLen; omega) (by omega) ?_; intro v6 w6 hR6 hg6 hat; have k6 := (hg6.block _ (lt_of_heap hcp5) (fun p => nwa (by rw [HVA.out]; exact p.symm))).trans hcp5; have c6 : w6.cell? ⟨wb, 1, none⟩ = some (.slice aa L.air.length ca) := (cell_blk k6 1).trans (congrArg some HVA.out); have f6 : w6.frozen? ⟨wb, 1, none⟩ = false := frozen_blk k6 1; obtain ⟨a6, c7, hv6, -⟩ := hR6.value; generalize hn6 : (strRow L.air ++ strRow AN).length = n6 at hv6; clear hn6; subst hv6)
  go_ret
  rw [← strRow_append] at hR6
  rw [← HVA.out] at hg6 hat
  have hn6 : (Value.slice a6 n6 c7).ownBlock ≠ some wb := hR6.neBlk k6 (by decide)
  obtain ⟨hL7, hB7⟩ := hL5.aired (w' := w6.setCell ⟨wb, 1, none⟩ (.slice a6 n6 c7)) (va' := .slice a6 n6 c7) (air' := L.air ++ AN) hb5 ((set_blk k6).trans rfl) (hR6.kept (fun g hg => Below.heap_setCell _ _ _ _ (fun e => hn6 (by have e' : g = wb := e; rw [← e']; exact hg)))) ((((Fr.refl _ w5).grown hg6 (fun k hk => .inl (List.mem_cons_of_mem _ (Option.mem_toList.2 hk)))) : Fr (wb :: L.va.ownBlock.toList) w5 w6).setCell (p := ⟨wb, 1, none⟩) (.inl (by simp)) _) (fun k hk => by
    rcases hat with hat | hat
    · exact .inl (hat ▸ hk)
    · rw [hat] at hk; cases hk; exact .inr (Nat.le_refl _))
  refine ⟨rfl, _, ?_, hL7, hBB.trans hB7, ?_⟩
  · exact ⟨rfl, by simp, Nat.le_succ _, by simp, by simpa using hal, fun hn s hs => (List.mem_append.1 hs).elim (hn s) (hane.out s)⟩
  · intro k hk m1 m2 m3 m4
    have hk0 : k < b1 := by have := HB1.out; omega
    have hk1 : k < w1.heap.size := Nat.lt_of_lt_of_le hk HG1.out.size
    have hk3 : k < w3.heap.size := Nat.lt_of_lt_of_le hk1 hs3
    have hk4 : k < w4.heap.size := Nat.lt_of_lt_of_le hk1 hs4
    have hk5 : k < w5.heap.size := Nat.lt_of_lt_of_le hk4 hF5.size
    rw [Below.heap_setCell _ _ _ _ m1, hg6.block k hk5 (fun q => m4 q.symm), hF5.block k hk4 (fun q => ?_), g4.block k hk3 (by simp), hF3.block k hk1 m2, HG1.out.block k hk (by simp)]
    simp only [List.mem_cons, List.mem_append, Option.mem_toList] at q
    rcases q with q | q | q
    · exact m1 q
    · have := hO2 k q; omega
    · exact m3 q

end Go.Proofs.YtachmkhbbbmioaaGreat

namespace Go.Proofs.YtachmkhbbbmioaaGreat
open Go.RowKit Go.Shelf

theorem Next.refl (L : LS) (m : Nat) : Next L L m := ⟨rfl, rfl, Nat.le_succ _, Nat.le_succ _, Nat.le_add_right _ _, fun h => h⟩

set_option maxRecDepth 100000 in
set_option maxHeartbeats 4000000 in
/-- Text, Len, Clock, Pending on both sides. -/
theorem asks_d (base wb : Nat) (L : LS) (j : Nat) (x : Pr) (w : World) (h0 : WAt base wb L w) (hj : L.prs[j]? = some x) (hb0 : base ≤ w.heap.size) (hlen : L.irs.length ≤ 2000000) (hair : L.air.length ≤ 4000000000) (k : Int) (hk : k = 3 ∨ k = 4 ∨ k = 5 ∨ k = 6 ∨ k = 7) :
    Calls Tryz.prog 16 #[.pointer (some ⟨wb, 0, none⟩), .agg #[.pointer (some ⟨x.cb, 0, none⟩), .pointer (some ⟨x.yb, 0, none⟩)], .int .i64 k] w fun e w' => e = .returned (.bool true) ∧ ∃ L', Next L L' 1 ∧ L'.prs = L.prs ∧ WAt base wb L' w' ∧ Below base w w' := by
  have g1 : w.grownBy (w.alloc (.cells #[.pointer (some ⟨x.cb, 0, none⟩), .pointer (some ⟨x.yb, 0, none⟩)] 39)) none := grown_alloc (grown_refl _) _
  have k1 : (w.alloc (.cells #[.pointer (some ⟨x.cb, 0, none⟩), .pointer (some ⟨x.yb, 0, none⟩)] 39)).heap[w.heap.size]? = some (.cells #[.pointer (some ⟨x.cb, 0, none⟩), .pointer (some ⟨x.yb, 0, none⟩)] 39) := by
    rw [heap_alloc_at]; simp
  have n1 : w.heap.size ∉ x.own := fun q => by have := (h0.pr j x hj).lt _ q; omega
  have hB1 : Below base w (w.alloc (.cells #[.pointer (some ⟨x.cb, 0, none⟩), .pointer (some ⟨x.yb, 0, none⟩)] 39)) := (Below.refl _ w).grown g1 hb0 (by simp)
  go_enter Tryz.func16, Tryz.ntmps16
  go_upto_region 1 with fail
  generalize (w.alloc (.cells #[.pointer (some ⟨x.cb, 0, none⟩), .pointer (some ⟨x.yb, 0, none⟩)] 39)) = w1 at g1 k1 hB1 ⊢
  have h := h0.grown g1
  have hb : base ≤ w1.heap.size := Nat.le_trans hb0 g1.size
  clear h0 hb0 g1
  generalize w.heap.size = b1 at k1 n1 ⊢
  have hP := h.pr j x hj
  obtain ⟨l1, -⟩ := hP.l1000
  have d0 : w1.cell? ⟨b1, 0, none⟩ = some (.pointer (some ⟨x.cb, 0, none⟩)) := cell_blk k1 0
  have end_same : ∀ {w2 w3 : World}, PairAt x w2 → Fr x.own w1 w2 → Below w2.heap.size w2 w3 → ∃ L', Next L L' 1 ∧ L'.prs = L.prs ∧ WAt base wb L' w3 ∧ Below base w w3 := by
    intro w2 w3 hP2 hF hB
    obtain ⟨hL, hB2⟩ := h.same hj hb hP2 hF
    exact ⟨L, Next.refl L 1, rfl, hL.below hB, (hB1.trans hB2).trans (hB.mono (Nat.le_trans hb hF.size))⟩
  rcases hk with rfl | rfl | rfl | rfl | rfl
  · have hC := hide (ask_text x w1 hP)
    go_wp2_with fail
    refine hC.out.mono ?_
    rintro e w2 ⟨rfl, hP2, hF⟩
    have hN := hide (ref_text x.yb x.S _ _ _ _ _ _ w2 hP2.rf (by omega))
    have kk1 := hF.blk k1 n1
    have dd1 : w2.cell? ⟨b1, 1, none⟩ = some (.pointer (some ⟨x.yb, 0, none⟩)) := cell_blk kk1 1
    generalize (txt (vis x.S.L)).toArray = t at hN ⊢
    go_wp2_with fail
    refine hN.out.mono ?_
    rintro e w3 ⟨rfl, hB⟩
    go_wp2_with fail
    go_ret
    exact ⟨rfl, end_same hP2 hF hB⟩
  · have hC := hide (ask_len x w1 hP)
    go_wp2_with fail
    refine hC.out.mono ?_
    rintro e w2 ⟨rfl, hP2, hF⟩
    have hN := hide (ref_len x.yb x.S _ _ _ _ _ _ w2 hP2.rf (by omega))
    have kk1 := hF.blk k1 n1
    have dd1 : w2.cell? ⟨b1, 1, none⟩ = some (.pointer (some ⟨x.yb, 0, none⟩)) := cell_blk kk1 1
    generalize ((vis x.S.L).length : Int) = t at hN ⊢
    have he : (t == t) = true := by simp
    go_wp2_with fail
    refine hN.out.mono ?_
    rintro e w3 ⟨rfl, hB⟩
    go_wp2_with fail
    go_ret
    exact ⟨rfl, end_same hP2 hF hB⟩
  · have hC := hide (ask_clock x w1 hP)
    have h8 := hP.good.n8
    have hgl := hide h.lts
    go_wp2_with fail
    refine hC.out.mono ?_
    rintro e w2 ⟨rfl, hR2, hP2, hF⟩
    obtain ⟨hL2, hB2⟩ := h.same hj hb hP2 hF
    have hN := hide (ref_clock x.yb x.S _ _ _ _ _ _ w2 hP2.rf h8)
    have kk1 := hF.blk k1 n1
    have dd1 : w2.cell? ⟨b1, 1, none⟩ = some (.pointer (some ⟨x.yb, 0, none⟩)) := cell_blk kk1 1
    have hs2 := hF.size
    generalize hHg : w1.heap.size = H at hgl hR2 hs2 hb ⊢
    go_wp2_with fail
    refine hN.out.mono ?_
    rintro e w3 ⟨v, rfl, hR3, -, hg3⟩
    have hL3 := hL2.grown hg3
    have hR23 := hR2.grown hg3
    have hSm := hide (same_ints x.S h8 _ _ w3 hR23 hR3)
    go_wp2_with fail
    refine hSm.out.mono ?_
    rintro e w4 ⟨rfl, hg4⟩
    have hL4 := hL3.grown hg4
    have hR4 := hR23.grown hg4
    have hs4 := Nat.le_trans hs2 (Nat.le_trans hg3.size hg4.size)
    have hK := hide (keep_ints wb H x.S.n L.vl L.va L.vt L.vi L.irs (ckRow x.S) w4 hL4.cp hL4.i hR4 (ckRow_len _) h8 hlen)
    go_wp2_with fail
    refine hK.out.mono ?_
    rintro e w5 ⟨rfl, r, vi', hI, hc, hrow, hF5, hr5, hv5⟩
    obtain ⟨hL5, hB5⟩ := hL4.keepI hgl.out (Nat.le_refl _) hb hs4 hI hc hrow hF5 hr5 hv5
    go_wp2_with fail
    go_ret
    refine ⟨rfl, _, ?_, ?_, hL5,  (((hB1.trans hB2).grown hg3 (Nat.le_trans hb hs2) (by simp)).grown hg4 (Nat.le_trans hb (Nat.le_trans hs2 hg3.size)) (by simp)).trans hB5⟩
    · exact ⟨rfl, rfl, by simp, Nat.le_succ _, Nat.le_succ _, fun h => h⟩
    · rfl
  · have hC := hide (ask_pending x w1 hP)
    go_wp2_with fail
    refine hC.out.mono ?_
    rintro e w2 ⟨rfl, hP2, hF⟩
    have hN0 := ref_pending x.yb x.S _ _ _ _ _ _ w2 hP2.rf
    rw [hP2.wl.len] at hN0
    have hN := hide hN0
    clear hN0
    have kk1 := hF.blk k1 n1
    have dd1 : w2.cell? ⟨b1, 1, none⟩ = some (.pointer (some ⟨x.yb, 0, none⟩)) := cell_blk kk1 1
    go_wp2_with fail
    refine hN.out.mono ?_
    rintro e w3 ⟨rfl, hw3⟩
    rw [hw3]
    go_wp2_with fail
    go_ret
    exact ⟨rfl, end_same hP2 hF (Below.refl _ _)⟩
  · have hC := hide (ask_tick x w1 hP)
    go_wp2_with fail
    refine hC.out.mono ?_
    rintro e w2 ⟨rfl, hP2, hF⟩
    obtain ⟨hL2, hB2⟩ := h.same hj hb hP2 hF
    have hN := hide (ref_tick x.yb x.S hP.good _ _ _ _ _ _ w2 hP2.rf)
    have kk1 := hF.blk k1 n1
    have dd1 : w2.cell? ⟨b1, 1, none⟩ = some (.pointer (some ⟨x.yb, 0, none⟩)) := cell_blk kk1 1
    have hdn := hide (digest_ok x.S.n hP.good.n8 x.S.s (by have := hP.good.sn; have := hP.good.n8; omega) x.S.cl (fun i hi => (hP.good.cl i (by have := hP.good.n8; omega)).2))
    generalize digest x.S.n x.S.s x.S.cl = t at hN hdn ⊢
    have htt : (t == t) = true := by simp
    go_wp2_with fail
    refine hN.out.mono ?_
    rintro e w3 ⟨rfl, g3⟩
    have hL3 := hL2.grown g3
    have g5 : w3.grownBy (w3.alloc (.cells #[str t] 9)) none := grown_alloc (grown_refl _) _
    have hSr : SrcAt (w3.alloc (.cells #[str t] 9)) (.slice (some ⟨w3.heap.size, 0, none⟩) 1 1) (strRow [t]) := src_new w3 [str t] _
    have hL5 := hL3.grown g5
    obtain ⟨aa, ca, hva, -⟩ := hL5.ar.value
    have y1 : w3.cell? ⟨wb, 1, none⟩ = some L.va := cell_blk hL3.cp 1
    rw [strRow_len] at hva
    rw [hva] at y1
    have HVA := hide hva
    clear hva
    have nwa : L.va.ownBlock ≠ some wb := hL5.ar.neBlk hL5.cp (by decide)
    have lA : (strRow L.air).length ≤ 4000000000 := by rw [strRow_len]; exact hair
    have lB : (strRow [t]).length = 1 := rfl
    have hRa' : RowAt 9 1 (.slice aa L.air.length ca) (strRow L.air) (w3.alloc (.cells #[str t] 9)) := by rw [← HVA.out]; exact hL5.ar
    have hcp5 := hL5.cp
    have hs2 := hF.size
    have hb3 : base ≤ w3.heap.size := Nat.le_trans hb (Nat.le_trans hs2 g3.size)
    have hBB : Below base w (w3.alloc (.cells #[str t] 9)) := (((hB1.trans hB2).grown g3 (Nat.le_trans hb hs2) (by simp)).grown g5 hb3 (by simp))
    have hb5 : base ≤ (w3.alloc (.cells #[str t] 9)).heap.size := Nat.le_trans hb3 g5.size
    have HL5 := hide hL5
    clear hL5 hL3 hC hN
    go_wp2_with (at_builtin; refine wpList_row Tryz.underlying26 infoStr rfl (by decide) rfl _ _ rfl _ _ rfl hRa' _ _ rfl hSr (strRow_one _) (strRow_cell _) (by unfold maxLen; omega) (by omega) ?_; intro v6 w6 hR6 hg6 hat; have k6 := (hg6.block _ (lt_of_heap hcp5) (fun p => nwa (by rw [HVA.out]; exact p.symm))).trans hcp5; have c6 : w6.cell? ⟨wb, 1, none⟩ = some (.slice aa L.air.length ca) := (cell_blk k6 1).trans (congrArg some HVA.out); have f6 : w6.frozen? ⟨wb, 1, none⟩ = false := frozen_blk k6 1; obtain ⟨a6, c7, hv6, -⟩ := hR6.value; generalize hn6 : (strRow L.air ++ strRow [t]).length = n6 at hv6; clear hn6; subst hv6)
    go_ret
    rw [← strRow_append] at hR6
    rw [← HVA.out] at hg6 hat
    have hn6 : (Value.slice a6 n6 c7).ownBlock ≠ some wb := hR6.neBlk k6 (by decide)
    obtain ⟨hL7, hB7⟩ := HL5.out.aired (w' := w6.setCell ⟨wb, 1, none⟩ (.slice a6 n6 c7)) (va' := .slice a6 n6 c7) (air' := L.air ++ [t]) hb5 ((set_blk k6).trans rfl) (hR6.kept (fun g hg => Below.heap_setCell _ _ _ _ (fun e => hn6 (by have e' : g = wb := e; rw [← e']; exact hg)))) ((((Fr.refl _ _).grown hg6 (fun k hk => .inl (List.mem_cons_of_mem _ (Option.mem_toList.2 hk)))) : Fr (wb :: L.va.ownBlock.toList) _ w6).setCell (p := ⟨wb, 1, none⟩) (.inl (by simp)) _) (fun k hk => by
      rcases hat with hat | hat
      · exact .inl (hat ▸ hk)
      · rw [hat] at hk; cases hk; exact .inr (Nat.le_refl _))
    refine ⟨rfl, _, ?_, ?_, hL7, hBB.trans hB7⟩
    · exact ⟨rfl, rfl, Nat.le_succ _, Nat.le_succ _, by simp, fun hn s hs => (List.mem_append.1 hs).elim (hn s) (fun q => by rw [List.mem_singleton.1 q]; exact hdn.out)⟩
    · rfl

end Go.Proofs.YtachmkhbbbmioaaGreat

namespace Go.Proofs.YtachmkhbbbmioaaGreat
open Go.RowKit Go.Shelf

theorem clk_zero (n : Nat) : intRow (clk n (fun _ => 0)) = List.replicate n [.int .i64 0] := by
  apply List.ext_getElem?
  intro i
  by_cases h : i < n
  · simp [intRow, clk, h]
  · rw [List.getElem?_eq_none (by simp [intRow, clk]; omega), List.getElem?_eq_none (by simp; omega)]

theorem row_made {n : Nat} (h8 : n ≤ 8) {w : World} {b : Nat} (hb : w.heap[b]? = some (.cells (madeCells #[.int .i64 0] n) 3)) : RowAt 3 1 (.slice (some ⟨b, 0, none⟩) n n) (intRow (clk n (fun _ => 0))) w := by
  rw [clk_zero]
  refine ⟨⟨?_, .inr ⟨b, n, _, ?_, Nat.zero_le _, hb, ?_, ?_, ?_, ?_⟩⟩, ?_⟩
  · rw [flatten_rep]; simp
  · simp
  · simp
  · unfold maxLen; omega
  · rw [size_madeCells]; simp
  · rw [flatten_rep, toList_madeCells_one]; simp
  · intro x hx; rw [List.eq_of_mem_replicate hx]; rfl

/-- One number of a clock is written. -/
theorem clk_set {n i : Nat} (hi : i < n) (q q' : Nat → Int) (h : ∀ j, j ≠ i → q' j = q j) : (intRow (clk n q)).set i ([Value.int .i64 (q i)].set 0 (.int .i64 (q' i))) = intRow (clk n q') := by
  apply List.ext_getElem?
  intro j
  rw [List.getElem?_set]
  by_cases e : i = j
  · subst e
    simp [intRow, clk, hi]
  · rw [if_neg e]
    by_cases hj : j < n
    · simp [intRow, clk, hj, h j (Ne.symm e)]
    · rw [List.getElem?_eq_none (by simp [intRow, clk]; omega), List.getElem?_eq_none (by simp [intRow, clk]; omega)]

theorem partCk_none (q : Nat → Int) : partCk q 0 = fun _ => 0 := by funext j; simp [partCk]

set_option maxRecDepth 100000 in
set_option maxHeartbeats 2000000 in
theorem longR (n : Nat) (h8 : n ≤ 8) (m : Nat) (hm : m ≤ 8) (q : Nat → Int) (hq : ∀ i, i < m → 0 ≤ q i) (v : Value) (w : World) (hv : RowAt 3 1 v (intRow (clk m q)) w) :
    Calls Tryz.prog 40 #[v, .int .i64 n] w fun e w' => ∃ g, e = .returned (.slice (some ⟨g, 0, none⟩) n n) ∧ RowAt 3 1 (.slice (some ⟨g, 0, none⟩) n n) (intRow (clk n (partCk q m))) w' ∧ w.heap.size ≤ g ∧ w.grownBy w' none := by
  have hmk := fun w => run_make_row' (P := Tryz.prog) 40 3 (.int .i64 0) 8 Tryz.underlying40 infoInt rfl .i64 .i64 n (by omega) (by omega) w
  obtain ⟨av, cv, rfl, -⟩ := hv.value
  rw [intRow_len, clk_len] at hv ⊢
  have g1 : w.grownBy (w.alloc (.cells (madeCells #[.int .i64 0] n) 3)) none := grown_alloc (grown_refl _) _
  have k1 : (w.alloc (.cells (madeCells #[.int .i64 0] n) 3)).heap[w.heap.size]? = some (.cells (madeCells #[.int .i64 0] n) 3) := by rw [heap_alloc_at]; simp
  go_enter Tryz.func40, Tryz.ntmps40
  go_wp2_with fail
  clear hmk
  generalize (w.alloc (.cells (madeCells #[.int .i64 0] n) 3)) = w1 at g1 k1 ⊢
  have hv1 := hv.grown g1
  have hR1 := row_made h8 k1
  obtain ⟨b, hb⟩ : ∃ b, w.heap.size = b := ⟨_, rfl⟩
  rw [hb] at k1 hR1 ⊢
  have hne : ∀ g, (Value.slice av m cv).ownBlock = some g → g ≠ b := fun g hg => by have := hv.lt hg; omega
  go_loopg [6] n (fun gk s6 wr => ∃ (i : Nat), s6 = .int .i64 i ∧ i ≤ n ∧ i ≤ m ∧ gk = n - i ∧ RowAt 3 1 (.slice (some ⟨b, 0, none⟩) n n) (intRow (clk n (partCk q i))) wr ∧ RowAt 3 1 (.slice av m cv) (intRow (clk m q)) wr ∧ Fr [] w wr)
  case atStart => exact ⟨0, rfl, by omega, by omega, rfl, by rw [partCk_none]; exact hR1, hv1, Fr.ofGrown g1⟩
  case round =>
    clear hR1 hv1 k1
    obtain ⟨i, rfl, hin, him, hgk, hR, hv1, hF⟩ := hrel
    by_cases hlt : i < n
    · have hli : (i : Int) < (n : Int) := by omega
      by_cases hlm : i < m
      · have hlmi : (i : Int) < (m : Int) := by omega
        have hqi := hq i hlm
        obtain ⟨g2, c2, cur2, hv2, -, hb2, hx2⟩ := hv1.cell (intRow_at (clk_at q hlm))
        rw [intRow_len, clk_len] at hv2
        cases hv2
        have k2 : wr.cell? ⟨g2, i, none⟩ = some (.int .i64 (q i)) := (cell_blk hb2 _).trans (by simpa using hx2 0 _ rfl)
        obtain ⟨g3, c3, cur3, hv3, -, hb3, hx3⟩ := hR.cell (intRow_at (clk_at (partCk q i) hlt))
        rw [intRow_len, clk_len] at hv3
        cases hv3
        have k3 : wr.cell? ⟨b, i, none⟩ = some (.int .i64 (partCk q i i)) := (cell_blk hb3 _).trans (by simpa using hx3 0 _ rfl)
        have f3 : wr.frozen? ⟨b, i, none⟩ = false := frozen_blk hb3 _
        have hmx : ∀ w, (Builtin.max_ #[3, 3] 3 #[.int .i64 (q i), .int .i64 0]).run Tryz.prog w = .ok (.int .i64 (q i)) w := fun w => by
          rw [run_max_int2]
          have : (if (0 : Int) > q i then (0 : Int) else q i) = q i := by split <;> omega
          rw [this]
        have hset := hR.set (i := i) (j := 0) (y := .int .i64 (q i)) (intRow_at (clk_at (partCk q i) hlt)) (by omega)
        have hpq : partCk q (i + 1) i = q i := by simp [partCk]
        have hcs := clk_set hlt (partCk q i) (partCk q (i + 1)) (fun j hj => by
          unfold partCk
          by_cases h1 : j < i
          · rw [if_pos h1, if_pos (by omega)]
          · rw [if_neg h1, if_neg (by omega)])
        rw [hpq] at hcs
        rw [hcs, Nat.mul_one, Nat.add_zero] at hset
        have hv3' : RowAt 3 1 (.slice (some ⟨g2, 0, none⟩) m cv) (intRow (clk m q)) (wr.setCell ⟨b, i, none⟩ (.int .i64 (q i))) := hv1.kept (fun g hg => Below.heap_setCell _ _ _ _ (hne g hg))
        have hF' := hF.setCell (p := ⟨b, i, none⟩) (.inr (by simp; omega)) (.int .i64 (q i))
        clear hx2 hx3 hcs hpq
        go_wp2_with fail
        go_roundg (n - (i + 1))
        case measure => omega
        case rel => exact ⟨i + 1, by go_num, by omega, by omega, rfl, hset, hv3', hF'⟩
      · obtain rfl : i = m := by omega
        have hlmi : ¬ (i : Int) < (i : Int) := by omega
        go_wp2_with fail
        go_ret
        exact ⟨b, rfl, hR, by omega, hF.toGrown⟩
    · obtain rfl : i = n := by omega
      have hpp : clk i (partCk q i) = clk i (partCk q m) := by
        unfold clk
        apply List.map_congr_left
        intro j hj
        have := List.mem_range.1 hj
        unfold partCk
        rw [if_pos this, if_pos (by omega)]
      rw [hpp] at hR
      go_wp2_with fail
      go_ret
      exact ⟨b, rfl, hR, by omega, hF.toGrown⟩

/-- The clock of the digest that the law makes. -/
def near (p3 p2 : Nat) (q : Nat → Int) : Nat → Int := fun i => if p3 = 0 then 0 else if p2 = 1 ∧ 0 < q i then q i - 1 else q i
def mix (i : Nat) (q' q : Nat → Int) : Nat → Int := fun j => if j < i then q' j else q j

theorem near_in {p3 p2 : Nat} {q : Nat → Int} {i : Nat} (h : 0 ≤ q i ∧ q i ≤ 100) : 0 ≤ near p3 p2 q i ∧ near p3 p2 q i ≤ 100 := by
  unfold near
  split
  · omega
  · split <;> omega

theorem mix_step (i : Nat) (q' q : Nat → Int) : ∀ j, j ≠ i → mix (i + 1) q' q j = mix i q' q j := by
  intro j hj
  unfold mix
  by_cases h1 : j < i
  · rw [if_pos h1, if_pos (by omega)]
  · rw [if_neg h1, if_neg (by omega)]

theorem mix_full (n : Nat) (q' q : Nat → Int) : clk n (mix n q' q) = clk n q' := by
  unfold clk
  apply List.map_congr_left
  intro j hj
  have := List.mem_range.1 hj
  unfold mix
  rw [if_pos this]

/-- A clock's numbers are written over, or stay. -/
theorem mix_set {n i b : Nat} (hi : i < n) {q' q : Nat → Int} {w : World} (hR : RowAt 3 1 (.slice (some ⟨b, 0, none⟩) n n) (intRow (clk n (mix i q' q))) w) (y : Int) (hy : q' i = y) : RowAt 3 1 (.slice (some ⟨b, 0, none⟩) n n) (intRow (clk n (mix (i + 1) q' q))) (w.setCell ⟨b, i, none⟩ (.int .i64 y)) := by
  have hset := hR.set (i := i) (j := 0) (y := .int .i64 y) (intRow_at (clk_at (mix i q' q) hi)) (by omega)
  have e : mix (i + 1) q' q i = y := by unfold mix; rw [if_pos (by omega)]; exact hy
  have hcs := clk_set hi (mix i q' q) (mix (i + 1) q' q) (mix_step i q' q)
  rw [e] at hcs
  rw [hcs, Nat.mul_one, Nat.add_zero] at hset
  exact hset

theorem mix_stay {n i b : Nat} (hi : i < n) {q' q : Nat → Int} {w : World} (hR : RowAt 3 1 (.slice (some ⟨b, 0, none⟩) n n) (intRow (clk n (mix i q' q))) w) (hy : q' i = q i) : RowAt 3 1 (.slice (some ⟨b, 0, none⟩) n n) (intRow (clk n (mix (i + 1) q' q))) w := by
  have e : mix (i + 1) q' q = mix i q' q := by
    funext j
    by_cases h : j = i
    · subst h
      unfold mix
      rw [if_pos (by omega), if_neg (by omega), hy]
    · exact mix_step i q' q j h
  rw [e]; exact hR

end Go.Proofs.YtachmkhbbbmioaaGreat

namespace Go.Proofs.YtachmkhbbbmioaaGreat
open Go.RowKit Go.Shelf

/-- Numbers that lie in memory, whoever holds them. -/
structure IntsIn (w : World) (a : Option Addr) (len : Nat) (xs : Nat → Int) : Prop where
  cell : ∀ i, i < len → ∃ b off, a = some ⟨b, off, none⟩ ∧ b < w.heap.size ∧ w.cell? ⟨b, off + i, none⟩ = some (.int .i64 (xs i)) ∧ (-9223372036854775808 ≤ xs i ∧ xs i ≤ 9223372036854775807)

def pos (xs : Nat → Int) : Nat → Int := fun i => max (xs i) 0

set_option maxRecDepth 100000 in
set_option maxHeartbeats 2000000 in
theorem longN (n : Nat) (h8 : n ≤ 8) (av : Option Addr) (m cv : Nat) (xs : Nat → Int) (w : World) (hv : IntsIn w av m xs) :
    Calls Tryz.prog 40 #[.slice av m cv, .int .i64 n] w fun e w' => ∃ g, e = .returned (.slice (some ⟨g, 0, none⟩) n n) ∧ RowAt 3 1 (.slice (some ⟨g, 0, none⟩) n n) (intRow (clk n (partCk (pos xs) m))) w' ∧ w.heap.size ≤ g ∧ w.grownBy w' none := by
  have hmk := fun w => run_make_row' (P := Tryz.prog) 40 3 (.int .i64 0) 8 Tryz.underlying40 infoInt rfl .i64 .i64 n (by omega) (by omega) w
  have g1 : w.grownBy (w.alloc (.cells (madeCells #[.int .i64 0] n) 3)) none := grown_alloc (grown_refl _) _
  have k1 : (w.alloc (.cells (madeCells #[.int .i64 0] n) 3)).heap[w.heap.size]? = some (.cells (madeCells #[.int .i64 0] n) 3) := by rw [heap_alloc_at]; simp
  go_enter Tryz.func40, Tryz.ntmps40
  go_wp2_with fail
  clear hmk
  generalize (w.alloc (.cells (madeCells #[.int .i64 0] n) 3)) = w1 at g1 k1 ⊢
  have hR1 := row_made h8 k1
  obtain ⟨b, hb⟩ : ∃ b, w.heap.size = b := ⟨_, rfl⟩
  rw [hb] at k1 hR1 ⊢
  go_loopg [6] n (fun gk s6 wr => ∃ (i : Nat), s6 = .int .i64 i ∧ i ≤ n ∧ i ≤ m ∧ gk = n - i ∧ RowAt 3 1 (.slice (some ⟨b, 0, none⟩) n n) (intRow (clk n (partCk (pos xs) i))) wr ∧ Fr [] w wr)
  case atStart => exact ⟨0, rfl, by omega, by omega, rfl, by rw [partCk_none]; exact hR1, Fr.ofGrown g1⟩
  case round =>
    clear hR1 k1
    obtain ⟨i, rfl, hin, him, hgk, hR, hF⟩ := hrel
    by_cases hlt : i < n
    · have hli : (i : Int) < (n : Int) := by omega
      by_cases hlm : i < m
      · have hlmi : (i : Int) < (m : Int) := by omega
        obtain ⟨g2, o2, rfl, hg2, hc2, hr2⟩ := hv.cell i hlm
        have k2 : wr.cell? ⟨g2, o2 + i, none⟩ = some (.int .i64 (xs i)) := (World.cell?_of_block (a := ⟨g2, o2 + i, none⟩) (hF.block g2 hg2 (by simp))).trans hc2
        obtain ⟨g3, c3, cur3, hv3, -, hb3, hx3⟩ := hR.cell (intRow_at (clk_at (partCk (pos xs) i) hlt))
        rw [intRow_len, clk_len] at hv3
        cases hv3
        have k3 : wr.cell? ⟨b, i, none⟩ = some (.int .i64 (partCk (pos xs) i i)) := (cell_blk hb3 _).trans (by simpa using hx3 0 _ rfl)
        have f3 : wr.frozen? ⟨b, i, none⟩ = false := frozen_blk hb3 _
        have hmx : ∀ w, (Builtin.max_ #[3, 3] 3 #[.int .i64 (xs i), .int .i64 0]).run Tryz.prog w = .ok (.int .i64 (pos xs i)) w := fun w => by
          rw [run_max_int2]
          have : (if (0 : Int) > xs i then (0 : Int) else xs i) = pos xs i := by unfold pos; split <;> omega
          rw [this]
        have hset := hR.set (i := i) (j := 0) (y := .int .i64 (pos xs i)) (intRow_at (clk_at (partCk (pos xs) i) hlt)) (by omega)
        have hpq : partCk (pos xs) (i + 1) i = pos xs i := by simp [partCk]
        have hcs := clk_set hlt (partCk (pos xs) i) (partCk (pos xs) (i + 1)) (fun j hj => by
          unfold partCk
          by_cases h1 : j < i
          · rw [if_pos h1, if_pos (by omega)]
          · rw [if_neg h1, if_neg (by omega)])
        rw [hpq] at hcs
        rw [hcs, Nat.mul_one, Nat.add_zero] at hset
        have hF' := hF.setCell (p := ⟨b, i, none⟩) (.inr (by simp; omega)) (.int .i64 (pos xs i))
        clear hx3 hcs hpq hc2 hr2
        go_wp2_with fail
        go_roundg (n - (i + 1))
        case measure => omega
        case rel => exact ⟨i + 1, by go_num, by omega, by omega, rfl, hset, hF'⟩
      · obtain rfl : i = m := by omega
        have hlmi : ¬ (i : Int) < (i : Int) := by omega
        go_wp2_with fail
        go_ret
        exact ⟨b, rfl, hR, by omega, hF.toGrown⟩
    · obtain rfl : i = n := by omega
      have hpp : clk i (partCk (pos xs) i) = clk i (partCk (pos xs) m) := by
        unfold clk
        apply List.map_congr_left
        intro j hj
        have := List.mem_range.1 hj
        unfold partCk
        rw [if_pos this, if_pos (by omega)]
      rw [hpp] at hR
      go_wp2_with fail
      go_ret
      exact ⟨b, rfl, hR, by omega, hF.toGrown⟩

set_option maxRecDepth 100000 in
set_option maxHeartbeats 4000000 in
theorem plainL (o num c kind tc tk r : Int) (va : Option Addr) (vn vp : Nat) (w : World) :
    Calls Tryz.prog 41 #[.agg #[.int .i64 o, .int .i64 num, .int .i64 c, .int .i64 kind, .int .i64 tc, .int .i64 tk, .int .i64 r, .slice va vn vp]] w fun e w' => e = .returned (.agg #[.int .i64 (max o 0), .int .i64 (max num 0), .int .i64 (max c 0), .int .i64 (max kind 0), .int .i64 (max tc 0), .int .i64 (max tk 0), .int .i64 (max r 0), .slice va vn vp]) ∧ w.grownBy w' none := by
  have hmx : ∀ (x : Int) (w : World), (Builtin.max_ #[3, 3] 3 #[.int .i64 x, .int .i64 0]).run Tryz.prog w = .ok (.int .i64 (max x 0)) w := fun x w => by
    rw [run_max_int2]
    have : (if (0 : Int) > x then (0 : Int) else x) = max x 0 := by split <;> omega
    rw [this]
  go_enter Tryz.func41, Tryz.ntmps41
  go_wp2_with fail
  exact bodyPost_ret (v := .agg #[.int .i64 (max o 0), .int .i64 (max num 0), .int .i64 (max c 0), .int .i64 (max kind 0), .int .i64 (max tc 0), .int .i64 (max tk 0), .int .i64 (max r 0), .slice va vn vp]) (by simp [results, Tryz.results41, go_sem]) rfl ⟨rfl, grown_alloc (grown_alloc (grown_refl _) _) _⟩

end Go.Proofs.YtachmkhbbbmioaaGreat

namespace Go.Proofs.YtachmkhbbbmioaaGreat
open Go.RowKit Go.Shelf

/-- An operation of raw numbers that lies in memory: its cells, and the numbers of its clock. -/
def OpIn (w : World) (b o : Nat) : Prop := ∃ (y : OpR) (va : Option Addr) (vn vp : Nat) (xs : Nat → Int),
  w.cell? ⟨b, o, none⟩ = some (.int .i64 y.o) ∧ w.cell? ⟨b, o + 1, none⟩ = some (.int .i64 y.num) ∧ w.cell? ⟨b, o + 2, none⟩ = some (.int .i64 y.c) ∧ w.cell? ⟨b, o + 3, none⟩ = some (.int .i64 y.kind) ∧ w.cell? ⟨b, o + 4, none⟩ = some (.int .i64 y.tc) ∧ w.cell? ⟨b, o + 5, none⟩ = some (.int .i64 y.tk) ∧ w.cell? ⟨b, o + 6, none⟩ = some (.int .i64 y.r) ∧ w.cell? ⟨b, o + 7, none⟩ = some (.slice va vn vp) ∧ IntsIn w va vn xs ∧
  (y.o ≤ 9223372036854775807 ∧ y.num ≤ 9223372036854775807 ∧ y.c ≤ 9223372036854775807 ∧ y.kind ≤ 9223372036854775807 ∧ y.tc ≤ 9223372036854775807 ∧ y.tk ≤ 9223372036854775807 ∧ y.r ≤ 9223372036854775807)

/-- Operations of raw numbers, in a row. -/
def OpsIn (w : World) (a : Option Addr) (len : Nat) : Prop := ∀ i, i < len → ∃ b off, a = some ⟨b, off, none⟩ ∧ b < w.heap.size ∧ OpIn w b (off + i * 8)

theorem IntsIn.grown {w w' : World} {a : Option Addr} {len : Nat} {xs : Nat → Int} (h : IntsIn w a len xs) (g : w.grownBy w' none) : IntsIn w' a len xs := ⟨fun i hi => by
  obtain ⟨b, off, e, hb, hc, hr⟩ := h.cell i hi
  exact ⟨b, off, e, Nat.lt_of_lt_of_le hb g.size, cell_of_grown hc g, hr⟩⟩

theorem OpIn.grown {w w' : World} {b o : Nat} (h : OpIn w b o) (g : w.grownBy w' none) : OpIn w' b o := by
  obtain ⟨y, va, vn, vp, xs, c0, c1, c2, c3, c4, c5, c6, c7, hI, hr⟩ := h
  exact ⟨y, va, vn, vp, xs, cell_of_grown c0 g, cell_of_grown c1 g, cell_of_grown c2 g, cell_of_grown c3 g, cell_of_grown c4 g, cell_of_grown c5 g, cell_of_grown c6 g, cell_of_grown c7 g, hI.grown g, hr⟩

theorem OpsIn.grown {w w' : World} {a : Option Addr} {len : Nat} (h : OpsIn w a len) (g : w.grownBy w' none) : OpsIn w' a len := fun i hi => by
  obtain ⟨b, off, e, hb, ho⟩ := h i hi
  exact ⟨b, off, e, Nat.lt_of_lt_of_le hb g.size, ho.grown g⟩

/-- Without numbers below 0, and with a clock of its own. -/
def plainOp (y : OpR) (q : Nat → Int) : OpR := ⟨max y.o 0, max y.num 0, max y.c 0, max y.kind 0, max y.tc 0, max y.tk 0, max y.r 0, q⟩

end Go.Proofs.YtachmkhbbbmioaaGreat
