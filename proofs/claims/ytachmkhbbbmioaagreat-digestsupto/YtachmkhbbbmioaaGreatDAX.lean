import Derived.Test.YtachmkhbbbmioaaGreatKeepUX
import Derived.Test.YtachmkhbbbmioaaGreatKeepX
namespace Go.Proofs.YtachmkhbbbmioaaGreat
open Go.RowKit Go.Shelf

set_option maxRecDepth 100000 in
set_option maxHeartbeats 4000000 in
/-- Every list still reads as its owner wrote it. -/
theorem looks_d (base wb : Nat) (L : LS) (w : World) (h : WAt base wb L w) (hlen : L.irs.length ≤ 2000000) (hlen2 : L.trs.length ≤ 2000000) :
    Calls Tryz.prog 17 #[.pointer (some ⟨wb, 0, none⟩)] w fun e w' => e = .returned (.bool true) ∧ Below w.heap.size w w' := by
  obtain ⟨ai, ci, hvi, hci⟩ := h.i.value
  rw [List.length_map] at hvi hci
  obtain ⟨at0, ct, hvt, hct⟩ := h.t.value
  rw [List.length_map] at hvt hct
  have HVI := hide hvi
  have HVT := hide hvt
  clear hvi hvt
  go_enter Tryz.func17, Tryz.ntmps17
  go_wp2_with fail
  go_loopg [3] L.irs.length (fun gk s3 wr => ∃ (i : Nat), s3 = .int .i64 i ∧ i ≤ L.irs.length ∧ gk = L.irs.length - i ∧ Below w.heap.size w wr)
  case atStart => exact ⟨0, rfl, by omega, rfl, Below.refl _ _⟩
  case round =>
    obtain ⟨i, rfl, hil, hgk, hB⟩ := hrel
    have h1 := h.below hB
    have c2 : wr.cell? ⟨wb, 2, none⟩ = some L.vi := cell_blk h1.cp 2
    rw [HVI.out] at c2
    by_cases hlt : i < L.irs.length
    · have hli : (i : Int) < (L.irs.length : Int) := by omega
      have hx : L.irs[i]? = some L.irs[i] := by simp [hlt]
      generalize L.irs[i] = r at hx
      obtain ⟨gi, cap, cur, hv, -, hb, hcell⟩ := h1.i.cell (i := i) (x := irCells r) (by simp [hx])
      rw [List.length_map] at hv
      rw [HVI.out] at hv
      cases hv
      have k0 : wr.cell? ⟨gi, i * 5, none⟩ = some r.l := (cell_blk hb _).trans (hcell 0 _ rfl)
      have k1 : wr.cell? ⟨gi, i * 5 + 1, none⟩ = some r.a := (cell_blk hb _).trans (hcell 1 _ rfl)
      have k2 : wr.cell? ⟨gi, i * 5 + 2, none⟩ = some r.b := (cell_blk hb _).trans (hcell 2 _ rfl)
      have k3 : wr.cell? ⟨gi, i * 5 + 3, none⟩ = some r.c := (cell_blk hb _).trans (hcell 3 _ rfl)
      have k4 : wr.cell? ⟨gi, i * 5 + 4, none⟩ = some (.int .i64 r.m) := (cell_blk hb _).trans (hcell 4 _ rfl)
      have hI := h1.ir i r hx
      obtain ⟨rl, ra, rb, rc, rn, rm⟩ := r
      obtain ⟨al, cl, e1, -⟩ := hI.l.value
      obtain ⟨aa, ca, e2, -⟩ := hI.a.value
      obtain ⟨ab, cb, e3, -⟩ := hI.b.value
      obtain ⟨ac, cc, e4, -⟩ := hI.c.value
      simp only at e1 e2 e3 e4 k0 k1 k2 k3 k4
      rw [fullRow_len] at e1 e2 e3 e4
      subst e1 e2 e3 e4
      have hn8 := hI.n8
      simp only at hn8
      have g2 : wr.grownBy (wr.alloc (.cells #[.slice al rn cl, .slice aa (rn + 1) ca, .slice ab (rn + 2) cb, .slice ac (rn + 3) cc, .int .i64 rm] 95)) none := grown_alloc (grown_refl _) _
      have kx : (wr.alloc (.cells #[.slice al rn cl, .slice aa (rn + 1) ca, .slice ab (rn + 2) cb, .slice ac (rn + 3) cc, .int .i64 rm] 95)).heap[wr.heap.size]? = some (.cells #[.slice al rn cl, .slice aa (rn + 1) ca, .slice ab (rn + 2) cb, .slice ac (rn + 3) cc, .int .i64 rm] 95) := by rw [heap_alloc_at]; simp
      go_upto_region 5 with fail
      generalize (wr.alloc (.cells #[.slice al rn cl, .slice aa (rn + 1) ca, .slice ab (rn + 2) cb, .slice ac (rn + 3) cc, .int .i64 rm] 95)) = w2 at g2 kx ⊢
      have hI2 := hI.kept (w' := w2) (fun k hk => g2.block k (hI.lt k hk) (by simp))
      have hB2 : Below w.heap.size w w2 := hB.grown g2 hB.size (by simp)
      have d0 : w2.cell? ⟨wr.heap.size, 0, none⟩ = some (.slice al rn cl) := cell_blk kx 0
      have d1 : w2.cell? ⟨wr.heap.size, 1, none⟩ = some (.slice aa (rn + 1) ca) := cell_blk kx 1
      have d2 : w2.cell? ⟨wr.heap.size, 2, none⟩ = some (.slice ab (rn + 2) cb) := cell_blk kx 2
      have d3 : w2.cell? ⟨wr.heap.size, 3, none⟩ = some (.slice ac (rn + 3) cc) := cell_blk kx 3
      have d4 : w2.cell? ⟨wr.heap.size, 4, none⟩ = some (.int .i64 rm) := cell_blk kx 4
      have f1 := full_ints rn (by omega) rm _ w2 hI2.l
      have f2 := full_ints (rn + 1) (by omega) rm _ w2 hI2.a
      have f3 := full_ints (rn + 2) (by omega) rm _ w2 hI2.b
      have f4 := full_ints (rn + 3) (by omega) rm _ w2 hI2.c
      simp only at f1 f2 f3 f4
      clear k0 k1 k2 k3 k4 hI hI2 g2 kx hcell hb
      have F1 := hide f1
      have F2 := hide f2
      have F3 := hide f3
      have F4 := hide f4
      clear f1 f2 f3 f4
      go_wp2_with fail
      refine F1.out.mono ?_
      rintro e w' ⟨rfl, hw⟩
      rw [hw]
      clear hw w' F1
      go_wp2_with fail
      refine F2.out.mono ?_
      rintro e w' ⟨rfl, hw⟩
      rw [hw]
      clear hw w' F2
      go_wp2_with fail
      refine F3.out.mono ?_
      rintro e w' ⟨rfl, hw⟩
      rw [hw]
      clear hw w' F3
      go_wp2_with fail
      refine F4.out.mono ?_
      rintro e w' ⟨rfl, hw⟩
      rw [hw]
      clear hw w' F4
      go_wp2_with fail
      go_roundg (L.irs.length - (i + 1))
      case measure => omega
      case rel => exact ⟨i + 1, by go_num, by omega, rfl, hB2⟩
    · go_wp2_with fail
      clear c2
      go_loopg [5] L.trs.length (fun gk s5 wr => ∃ (i : Nat), s5 = .int .i64 i ∧ i ≤ L.trs.length ∧ gk = L.trs.length - i ∧ Below w.heap.size w wr)
      case atStart => exact ⟨0, rfl, by omega, rfl, hB⟩
      case round =>
        clear hB h1
        obtain ⟨i, rfl, hil, hgk, hB⟩ := hrel
        have h1 := h.below hB
        have c3 : wr.cell? ⟨wb, 3, none⟩ = some L.vt := cell_blk h1.cp 3
        rw [HVT.out] at c3
        by_cases hlt : i < L.trs.length
        · have hli : (i : Int) < (L.trs.length : Int) := by omega
          have hx : L.trs[i]? = some L.trs[i] := by simp [hlt]
          generalize L.trs[i] = r at hx
          obtain ⟨gi, cap, cur, hv, -, hb, hcell⟩ := h1.t.cell (i := i) (x := trCells r) (by simp [hx])
          rw [List.length_map] at hv
          rw [HVT.out] at hv
          cases hv
          have k0 : wr.cell? ⟨gi, i * 5, none⟩ = some r.l := (cell_blk hb _).trans (hcell 0 _ rfl)
          have k1 : wr.cell? ⟨gi, i * 5 + 1, none⟩ = some r.a := (cell_blk hb _).trans (hcell 1 _ rfl)
          have k2 : wr.cell? ⟨gi, i * 5 + 2, none⟩ = some r.b := (cell_blk hb _).trans (hcell 2 _ rfl)
          have k3 : wr.cell? ⟨gi, i * 5 + 3, none⟩ = some r.c := (cell_blk hb _).trans (hcell 3 _ rfl)
          have k4 : wr.cell? ⟨gi, i * 5 + 4, none⟩ = some (str r.m) := (cell_blk hb _).trans (hcell 4 _ rfl)
          have hI := h1.tr i r hx
          obtain ⟨rl, ra, rb, rc, rn, rm⟩ := r
          obtain ⟨al, cl, e1, -⟩ := hI.l.value
          obtain ⟨aa, ca, e2, -⟩ := hI.a.value
          obtain ⟨ab, cb, e3, -⟩ := hI.b.value
          obtain ⟨ac, cc, e4, -⟩ := hI.c.value
          simp only at e1 e2 e3 e4 k0 k1 k2 k3 k4
          rw [fullT_len] at e1 e2 e3 e4
          subst e1 e2 e3 e4
          have hn8 := hI.n8
          simp only at hn8
          have g2 : wr.grownBy (wr.alloc (.cells #[.slice al rn cl, .slice aa (rn + 1) ca, .slice ab (rn + 2) cb, .slice ac (rn + 3) cc, str rm] 98)) none := grown_alloc (grown_refl _) _
          have kx : (wr.alloc (.cells #[.slice al rn cl, .slice aa (rn + 1) ca, .slice ab (rn + 2) cb, .slice ac (rn + 3) cc, str rm] 98)).heap[wr.heap.size]? = some (.cells #[.slice al rn cl, .slice aa (rn + 1) ca, .slice ab (rn + 2) cb, .slice ac (rn + 3) cc, str rm] 98) := by rw [heap_alloc_at]; simp
          go_upto_region 11 with fail
          generalize (wr.alloc (.cells #[.slice al rn cl, .slice aa (rn + 1) ca, .slice ab (rn + 2) cb, .slice ac (rn + 3) cc, str rm] 98)) = w2 at g2 kx ⊢
          have hI2 := hI.kept (w' := w2) (fun k hk => g2.block k (hI.lt k hk) (by simp))
          have hB2 : Below w.heap.size w w2 := hB.grown g2 hB.size (by simp)
          have d0 : w2.cell? ⟨wr.heap.size, 0, none⟩ = some (.slice al rn cl) := cell_blk kx 0
          have d1 : w2.cell? ⟨wr.heap.size, 1, none⟩ = some (.slice aa (rn + 1) ca) := cell_blk kx 1
          have d2 : w2.cell? ⟨wr.heap.size, 2, none⟩ = some (.slice ab (rn + 2) cb) := cell_blk kx 2
          have d3 : w2.cell? ⟨wr.heap.size, 3, none⟩ = some (.slice ac (rn + 3) cc) := cell_blk kx 3
          have d4 : w2.cell? ⟨wr.heap.size, 4, none⟩ = some (str rm) := cell_blk kx 4
          have f1 := full_texts rn (by omega) rm _ w2 hI2.l
          have f2 := full_texts (rn + 1) (by omega) rm _ w2 hI2.a
          have f3 := full_texts (rn + 2) (by omega) rm _ w2 hI2.b
          have f4 := full_texts (rn + 3) (by omega) rm _ w2 hI2.c
          simp only at f1 f2 f3 f4
          clear k0 k1 k2 k3 k4 hI hI2 g2 kx hcell hb
          have F1 := hide f1
          have F2 := hide f2
          have F3 := hide f3
          have F4 := hide f4
          clear f1 f2 f3 f4
          go_wp2_with fail
          refine F1.out.mono ?_
          rintro e w' ⟨rfl, hw⟩
          rw [hw]
          clear hw w' F1
          go_wp2_with fail
          refine F2.out.mono ?_
          rintro e w' ⟨rfl, hw⟩
          rw [hw]
          clear hw w' F2
          go_wp2_with fail
          refine F3.out.mono ?_
          rintro e w' ⟨rfl, hw⟩
          rw [hw]
          clear hw w' F3
          go_wp2_with fail
          refine F4.out.mono ?_
          rintro e w' ⟨rfl, hw⟩
          rw [hw]
          clear hw w' F4
          go_wp2_with fail
          go_roundg (L.trs.length - (i + 1))
          case measure => omega
          case rel => exact ⟨i + 1, by go_num, by omega, rfl, hB2⟩
        · go_wp2_with fail
          go_ret
          exact ⟨rfl, hB⟩

end Go.Proofs.YtachmkhbbbmioaaGreat

namespace Go.Proofs.YtachmkhbbbmioaaGreat
open Go.RowKit Go.Shelf

set_option maxRecDepth 100000 in
set_option maxHeartbeats 2000000 in
/-- A copy that stays. -/
theorem begins_d (base wb n s : Nat) (L : LS) (w : World) (h : WAt base wb L w) (hb : base ≤ w.heap.size) (h1 : 1 ≤ s) (h2 : s ≤ n) (h3 : n ≤ 8) (hlen : L.prs.length ≤ 1000) :
    Calls Tryz.prog 13 #[.pointer (some ⟨wb, 0, none⟩), .int .i64 n, .int .i64 s, .bool true] w fun e w' => e = .returned (.bool true) ∧ ∃ vl' x, WAt base wb { L with vl := vl', prs := L.prs ++ [x] } w' ∧ Below base w w' := by
  have hC := hide (fun w => cpNew_any n s h1 h2 h3 w)
  have hR := hide (fun w => refNew_any n s h1 h2 h3 w)
  obtain ⟨al, cl, hvl, hcl⟩ := h.l.value
  rw [List.length_map] at hvl hcl
  have HVL := hide hvl
  clear hvl
  go_enter Tryz.func13, Tryz.ntmps13
  go_wp2_with fail
  refine (hC.out _).mono ?_
  rintro e w1 ⟨cb, sb, ma, mp, lb, mb, rfl, hcp, hg1, hn1⟩
  go_wp2_with fail
  refine (hR.out _).mono ?_
  rintro e w2 ⟨yb, vc, rfl, hrf, hg2, hn2⟩
  have hG : w.grownBy w2 none := grown_trans hg1 hg2
  have hL := h.grown hG
  have hs1 := hg1.size
  obtain ⟨x, hxc, hxy, hP, hxn⟩ : ∃ x : Pr, x.cb = cb ∧ x.yb = yb ∧ PairAt x w2 ∧ ∀ k ∈ x.own, w.heap.size ≤ k := by
    refine ⟨⟨cb, sb, ma, mp, lb, mb, yb, vc, .slice none 0 0, .slice none 0 0, newS n s, [], [], .slice none 0 0, []⟩, rfl, rfl, ⟨hcp.kept (fun k hk => hg2.block k (hcp.lt k hk) (by simp)), hrf, newS_good h1 h2 h3, by simp [newS, sumcl], by simp [newS, sumcl], opsOk_new n s, logAt_new n w2, by simp, wtRows_nil _ _ _, wtOk_new n s⟩, ?_⟩
    intro k hk
    simp only [Pr.own, List.mem_append, List.not_mem_nil, or_false] at hk
    rcases hk with hk | hk
    · simp only [List.mem_cons, List.not_mem_nil, or_false] at hk
      omega
    · have := hn2 k hk; omega
  subst hxc hxy
  clear hcp hrf hn1 hn2 hg1 hg2 hC hR
  have c0 : w2.cell? ⟨wb, 0, none⟩ = some (.slice al L.prs.length cl) := by rw [← HVL.out]; exact cell_blk hL.cp 0
  go_upto_region 6 with fail
  have g3 : w2.grownBy (w2.alloc (.cells #[.pointer (some ⟨x.cb, 0, none⟩), .pointer (some ⟨x.yb, 0, none⟩)] 39)) none := grown_alloc (grown_refl _) _
  have hS3 : SrcAt (w2.alloc (.cells #[.pointer (some ⟨x.cb, 0, none⟩), .pointer (some ⟨x.yb, 0, none⟩)] 39)) (.slice (some ⟨w2.heap.size, 0, none⟩) 1 1) ([x].map twoCells) := src_new w2 (twoCells x) _
  have hR3 := hL.l.grown g3
  rw [HVL.out] at hR3
  have hw3 := (g3.block _ (lt_of_heap hL.cp) (by simp)).trans hL.cp
  have nwl : (Value.slice al L.prs.length cl).ownBlock ≠ some wb := by rw [← HVL.out]; exact hL.l.neBlk hL.cp (by decide)
  have hwlt : wb < w2.heap.size := lt_of_heap hL.cp
  go_wp2_with (at_builtin; refine wpList_row Tryz.underlying29 infoTwo rfl (by decide) rfl _ _ rfl (.slice al L.prs.length cl) _ rfl hR3 _ _ rfl hS3 (two_len _) (two_one _) (by unfold maxLen; simp; omega) (by simp; omega) ?_; intro v' w4 hR4 hg4 hat; have k4 := (hg4.block _ (lt_of_heap hw3) (Ne.symm nwl)).trans hw3; have c4 : w4.cell? ⟨wb, 0, none⟩ = some (.slice al L.prs.length cl) := (cell_blk k4 0).trans (congrArg some HVL.out); have f4 : w4.frozen? ⟨wb, 0, none⟩ = false := frozen_blk k4 0; obtain ⟨a', c', hv', -⟩ := hR4.value; generalize hn3 : (L.prs.map twoCells ++ [x].map twoCells).length = n3 at hv'; clear hn3; subst hv')
  go_ret
  refine ⟨rfl, .slice a' n3 c', x, h.more hb (hP.kept (fun k hk => ?_)) hxn ((set_blk k4).trans rfl) ?_ ?_ ?_⟩
  · have hk1 := hP.lt k hk
    have hk2 := hxn k hk
    have hk3 : k ≠ wb := by have := lt_of_heap h.cp; omega
    rw [Below.heap_setCell _ _ _ _ hk3, hg4.block k (by simp; omega) (fun q => by rw [← HVL.out] at q; have := h.l.lt q.symm; omega)]
    exact g3.block k hk1 (by simp)
  · rw [List.map_append]
    refine hR4.kept (fun q hq => Below.heap_setCell _ _ _ _ (fun e => ?_))
    subst e
    rcases hat with hat | hat
    · exact nwl (hat ▸ hq)
    · rw [hat] at hq
      simp only [Option.some.injEq, World.size_alloc] at hq
      omega
  · exact ((((Fr.refl _ w).grown hG (by simp)).grown g3 (by simp)).grown hg4 (fun k hk => .inl (by rw [← HVL.out] at hk; simp [hk]))).setCell (p := ⟨wb, 0, none⟩) (.inl (by simp)) _
  · intro k hk
    rw [← HVL.out] at hat
    rcases hat with hat | hat
    · exact .inl (hat ▸ hk)
    · rw [hat] at hk
      simp only [Option.some.injEq, World.size_alloc] at hk
      have := hG.size
      exact .inr ⟨by omega, fun q => by have := hP.lt k q; omega⟩

end Go.Proofs.YtachmkhbbbmioaaGreat

namespace Go.Proofs.YtachmkhbbbmioaaGreat
open Go.RowKit Go.Shelf

theorem packs_len (n : Nat) : ∀ (l sm : List OpR), (packs n sm l).length ≤ l.length + 1
  | [], sm => by unfold packs; split <;> simp
  | x :: l, sm => by
    rw [packs_cons]
    have h1 := packs_len n l [x]
    have h2 := packs_len n l (sm ++ [x])
    split
    · simp only [List.length_cons]; omega
    · simp only [List.length_cons]; omega

theorem answers_len {S : CS} (hG : Good S) (ho : OpsOk S) (q : Nat → Int) (hq : ∀ i, i < S.n → 0 ≤ q i ∧ q i ≤ 100) : (answers S.n (miss S q)).length ≤ 1000 := by
  have h1 := missTo_len hG ho q (fun i hi => (hq i hi).1) S.n (Nat.le_refl _)
  have h2 := packs_len S.n (miss S q) []
  have h8 := hG.n8
  unfold answers
  rw [List.length_map]
  have : (miss S q).length ≤ 100 * S.n := h1
  omega

/-- What an act has made of the world. -/
structure Next (L L' : LS) (m : Nat) : Prop where
  vl : L'.vl = L.vl
  prs : L'.prs.length = L.prs.length
  irs : L'.irs.length ≤ L.irs.length + 1
  trs : L'.trs.length ≤ L.trs.length + 1
  air : L'.air.length ≤ L.air.length + m

set_option maxRecDepth 100000 in
set_option maxHeartbeats 4000000 in
/-- Handle of a digest, on both sides. -/
theorem handles_d (base wb : Nat) (L : LS) (j : Nat) (x : Pr) (w : World) (h0 : WAt base wb L w) (hj : L.prs[j]? = some x) (hb0 : base ≤ w.heap.size) (hlen : L.trs.length ≤ 2000000) (hair : L.air.length ≤ 4000000000)
    (s : Int) (hs1 : 1 ≤ s) (hsn : s ≤ x.S.n) (q : Nat → Int) (hq : ∀ i, i < x.S.n → 0 ≤ q i ∧ q i ≤ 100) :
    Calls Tryz.prog 14 #[.pointer (some ⟨wb, 0, none⟩), .agg #[.pointer (some ⟨x.cb, 0, none⟩), .pointer (some ⟨x.yb, 0, none⟩)], str (digest x.S.n s q)] w fun e w' => e = .returned (.bool true) ∧ ∃ L', Next L L' 1000 ∧ WAt base wb L' w' ∧ Below base w w' := by
  have g1 : w.grownBy (w.alloc (.cells #[.pointer (some ⟨x.cb, 0, none⟩), .pointer (some ⟨x.yb, 0, none⟩)] 39)) none := grown_alloc (grown_refl _) _
  have k1 : (w.alloc (.cells #[.pointer (some ⟨x.cb, 0, none⟩), .pointer (some ⟨x.yb, 0, none⟩)] 39)).heap[w.heap.size]? = some (.cells #[.pointer (some ⟨x.cb, 0, none⟩), .pointer (some ⟨x.yb, 0, none⟩)] 39) := by
    rw [heap_alloc_at]; simp
  have n1 : w.heap.size ∉ x.own := fun p => by have := (h0.pr j x hj).lt _ p; omega
  have hB1 : Below base w (w.alloc (.cells #[.pointer (some ⟨x.cb, 0, none⟩), .pointer (some ⟨x.yb, 0, none⟩)] 39)) := (Below.refl _ w).grown g1 hb0 (by simp)
  have hal := answers_len (h0.pr j x hj).good (h0.pr j x hj).ops q hq
  have HP := hide (fun (w1 : World) (hp : PairAt x w1) => hand_prog x s hs1 hsn q hq w1 hp)
  have HF := hide (fun (w1 : World) (hp : PairAt x w1) => hand_ref x s hs1 hsn q hq w1 hp)
  generalize answers x.S.n (miss x.S q) = AN at hal HP HF
  generalize digest x.S.n s q = D at HP HF ⊢
  clear hq hs1 hsn
  go_enter Tryz.func14, Tryz.ntmps14
  go_upto_region 1 with fail
  generalize (w.alloc (.cells #[.pointer (some ⟨x.cb, 0, none⟩), .pointer (some ⟨x.yb, 0, none⟩)] 39)) = w1 at g1 k1 hB1 ⊢
  have h := h0.grown g1
  have hb : base ≤ w1.heap.size := Nat.le_trans hb0 g1.size
  clear h0 hb0 g1
  generalize w.heap.size = b1 at k1 n1 ⊢
  have hP := h.pr j x hj
  have hgl := hide h.lts
  have d0 : w1.cell? ⟨b1, 0, none⟩ = some (.pointer (some ⟨x.cb, 0, none⟩)) := cell_blk k1 0
  have HP1 := hide (HP.out w1 hP)
  clear HP
  go_wp2_with fail
  refine HP1.out.mono ?_
  rintro e w2 ⟨v2, rfl, hR2, hO2, hP2, hF2⟩
  obtain ⟨hL2, hB2⟩ := h.same hj hb hP2 hF2
  have kk1 := hF2.blk k1 n1
  have dd1 : w2.cell? ⟨b1, 1, none⟩ = some (.pointer (some ⟨x.yb, 0, none⟩)) := cell_blk kk1 1
  have HF1 := hide (HF.out w2 hP2)
  have hs2 := hF2.size
  clear HF HP1
  go_wp2_with fail
  refine HF1.out.mono ?_
  rintro e w3 ⟨v3, rfl, hR3, g3, hO3⟩
  have hL3 := hL2.grown g3
  have hR23 := hR2.grown g3
  have HS := hide (same_texts AN (by omega) v2 v3 w3 hR23 hR3)
  clear HF1
  go_wp2_with fail
  refine HS.out.mono ?_
  rintro e w4 ⟨rfl, g4⟩
  have hL4 := hL3.grown g4
  have hR24 := hR23.grown g4
  have hR34 := hR3.grown g4
  have hv23 : ∀ g, v3.ownBlock = some g → v2.ownBlock ≠ some g := fun g hg p => by have h1 := hO3 g hg; have h2 := hR2.lt p; omega
  have hs4 : w1.heap.size ≤ w4.heap.size := Nat.le_trans hs2 (Nat.le_trans g3.size g4.size)
  have hK := hide (keep_texts wb L.vl L.va L.vi L.vt L.trs v2 (strRow AN) w4 hL4.cp hL4.t hR24 (by rw [strRow_len]; exact hal) hlen)
  clear HS
  go_wp2_with fail
  refine hK.out.mono ?_
  rintro e w5 ⟨rfl, r, vt', hT, hc, hrow, hF5, hr5, hv5⟩
  obtain ⟨hL5, hB5⟩ := hL4.keepT hgl.out hO2 hb hs4 hT hc hrow hF5 hr5 hv5
  have hR35 : RowAt 9 1 v3 (strRow AN) w5 := hR34.kept (fun g hg => hF5.block g (hR34.lt hg) (fun p => by
    simp only [List.mem_cons, List.mem_append, Option.mem_toList] at p
    rcases p with p | p | p
    · exact hR34.neBlk hL4.cp (by decide) (p ▸ hg)
    · exact hv23 g hg p
    · exact hR34.ne hL4.t (by decide) hg p))
  have hBB : Below base w w5 := (((hB1.trans hB2).grown g3 (Nat.le_trans hb hs2) (by simp)).grown g4 (Nat.le_trans hb (Nat.le_trans hs2 g3.size)) (by simp)).trans hB5
  have hb5 : base ≤ w5.heap.size := Nat.le_trans hb (Nat.le_trans hs4 hF5.size)
  -- the air
  obtain ⟨aa, ca, hva, -⟩ := hL5.ar.value
  have y1 : w5.cell? ⟨wb, 1, none⟩ = some L.va := cell_blk hL5.cp 1
  have hva' : L.va = .slice aa L.air.length ca := by rw [strRow_len] at hva; exact hva
  rw [hva'] at y1
  have HVA := hide hva'
  clear hva hva'
  obtain ⟨a3, c3, hv3, -⟩ := hR35.value
  rw [strRow_len] at hv3
  subst hv3
  have hs35 := hR35.src
  have nwa : L.va.ownBlock ≠ some wb := hL5.ar.neBlk hL5.cp (by decide)
  have lA : (strRow L.air).length ≤ 4000000000 := by rw [strRow_len]; exact hair
  have lB : (strRow AN).length ≤ 1000 := by rw [strRow_len]; exact hal
  have hRa := hL5.ar
  have hRa' : RowAt 9 1 (.slice aa L.air.length ca) (strRow L.air) w5 := by rw [← HVA.out]; exact hRa
  have hcp5 := hL5.cp
  have HRa := hide hRa
  clear hK hRa hR34 hR24 hR23 hR2 hR3
  go_wp2_with (at_builtin; refine wpList_row Tryz.underlying26 infoStr rfl (by decide) rfl _ _ rfl _ _ rfl hRa' _ _ rfl hs35 (strRow_one _) (strRow_cell _) (by unfold maxLen; omega) (by omega) ?_; intro v6 w6 hR6 hg6 hat; have k6 := (hg6.block _ (lt_of_heap hcp5) (fun p => nwa (by rw [HVA.out]; exact p.symm))).trans hcp5; have c6 : w6.cell? ⟨wb, 1, none⟩ = some (.slice aa L.air.length ca) := (cell_blk k6 1).trans (congrArg some HVA.out); have f6 : w6.frozen? ⟨wb, 1, none⟩ = false := frozen_blk k6 1; obtain ⟨a6, c7, hv6, -⟩ := hR6.value; generalize hn6 : (strRow L.air ++ strRow AN).length = n6 at hv6; clear hn6; subst hv6)
  go_ret
  rw [← strRow_append] at hR6
  rw [← HVA.out] at hg6 hat
  have hn6 : (Value.slice a6 n6 c7).ownBlock ≠ some wb := hR6.neBlk k6 (by decide)
  obtain ⟨hL7, hB7⟩ := hL5.aired (w' := w6.setCell ⟨wb, 1, none⟩ (.slice a6 n6 c7)) (va' := .slice a6 n6 c7) (air' := L.air ++ AN) hb5 ((set_blk k6).trans rfl) (hR6.kept (fun g hg => Below.heap_setCell _ _ _ _ (fun e => hn6 (by have e' : g = wb := e; rw [← e']; exact hg)))) ((((Fr.refl _ w5).grown hg6 (fun k hk => .inl (List.mem_cons_of_mem _ (Option.mem_toList.2 hk)))) : Fr (wb :: L.va.ownBlock.toList) w5 w6).setCell (p := ⟨wb, 1, none⟩) (.inl (by simp)) _) (fun k hk => by
    rcases hat with hat | hat
    · exact .inl (hat ▸ hk)
    · rw [hat] at hk; cases hk; exact .inr (Nat.le_refl _))
  refine ⟨rfl, _, ?_, hL7, hBB.trans hB7⟩
  exact ⟨rfl, rfl, Nat.le_succ _, by simp, by simpa using hal⟩

end Go.Proofs.YtachmkhbbbmioaaGreat

namespace Go.Proofs.YtachmkhbbbmioaaGreat
open Go.RowKit Go.Shelf

theorem Next.refl (L : LS) (m : Nat) : Next L L m := ⟨rfl, rfl, Nat.le_succ _, Nat.le_succ _, Nat.le_add_right _ _⟩

set_option maxRecDepth 100000 in
set_option maxHeartbeats 4000000 in
/-- Text, Len, Clock, Pending on both sides. -/
theorem asks_d (base wb : Nat) (L : LS) (j : Nat) (x : Pr) (w : World) (h0 : WAt base wb L w) (hj : L.prs[j]? = some x) (hb0 : base ≤ w.heap.size) (hlen : L.irs.length ≤ 2000000) (hair : L.air.length ≤ 4000000000) (k : Int) (hk : k = 3 ∨ k = 4 ∨ k = 5 ∨ k = 6 ∨ k = 7) :
    Calls Tryz.prog 16 #[.pointer (some ⟨wb, 0, none⟩), .agg #[.pointer (some ⟨x.cb, 0, none⟩), .pointer (some ⟨x.yb, 0, none⟩)], .int .i64 k] w fun e w' => e = .returned (.bool true) ∧ ∃ L', Next L L' 1 ∧ L'.prs = L.prs ∧ WAt base wb L' w' ∧ Below base w w' := by
  have g1 : w.grownBy (w.alloc (.cells #[.pointer (some ⟨x.cb, 0, none⟩), .pointer (some ⟨x.yb, 0, none⟩)] 39)) none := grown_alloc (grown_refl _) _
  have k1 : (w.alloc (.cells #[.pointer (some ⟨x.cb, 0, none⟩), .pointer (some ⟨x.yb, 0, none⟩)] 39)).heap[w.heap.size]? = some (.cells #[.pointer (some ⟨x.cb, 0, none⟩), .pointer (some ⟨x.yb, 0, none⟩)] 39) := by
    rw [heap_alloc_at]; simp
  have n1 : w.heap.size ∉ x.own := fun q => by have := (h0.pr j x hj).lt _ q; omega
  have hB1 : Below base w (w.alloc (.cells #[.pointer (some ⟨x.cb, 0, none⟩), .pointer (some ⟨x.yb, 0, none⟩)] 39)) := (Below.refl _ w).grown g1 hb0 (by simp)
  go_enter Tryz.func16, Tryz.ntmps16
  go_upto_region 1 with fail
  generalize (w.alloc (.cells #[.pointer (some ⟨x.cb, 0, none⟩), .pointer (some ⟨x.yb, 0, none⟩)] 39)) = w1 at g1 k1 hB1 ⊢
  have h := h0.grown g1
  have hb : base ≤ w1.heap.size := Nat.le_trans hb0 g1.size
  clear h0 hb0 g1
  generalize w.heap.size = b1 at k1 n1 ⊢
  have hP := h.pr j x hj
  obtain ⟨l1, -⟩ := hP.l1000
  have d0 : w1.cell? ⟨b1, 0, none⟩ = some (.pointer (some ⟨x.cb, 0, none⟩)) := cell_blk k1 0
  have end_same : ∀ {w2 w3 : World}, PairAt x w2 → Fr x.own w1 w2 → Below w2.heap.size w2 w3 → ∃ L', Next L L' 1 ∧ L'.prs = L.prs ∧ WAt base wb L' w3 ∧ Below base w w3 := by
    intro w2 w3 hP2 hF hB
    obtain ⟨hL, hB2⟩ := h.same hj hb hP2 hF
    exact ⟨L, Next.refl L 1, rfl, hL.below hB, (hB1.trans hB2).trans (hB.mono (Nat.le_trans hb hF.size))⟩
  rcases hk with rfl | rfl | rfl | rfl | rfl
  · have hC := hide (ask_text x w1 hP)
    go_wp2_with fail
    refine hC.out.mono ?_
    rintro e w2 ⟨rfl, hP2, hF⟩
    have hN := hide (ref_text x.yb x.S _ _ _ _ _ _ w2 hP2.rf (by omega))
    have kk1 := hF.blk k1 n1
    have dd1 : w2.cell? ⟨b1, 1, none⟩ = some (.pointer (some ⟨x.yb, 0, none⟩)) := cell_blk kk1 1
    generalize (txt (vis x.S.L)).toArray = t at hN ⊢
    go_wp2_with fail
    refine hN.out.mono ?_
    rintro e w3 ⟨rfl, hB⟩
    go_wp2_with fail
    go_ret
    exact ⟨rfl, end_same hP2 hF hB⟩
  · have hC := hide (ask_len x w1 hP)
    go_wp2_with fail
    refine hC.out.mono ?_
    rintro e w2 ⟨rfl, hP2, hF⟩
    have hN := hide (ref_len x.yb x.S _ _ _ _ _ _ w2 hP2.rf (by omega))
    have kk1 := hF.blk k1 n1
    have dd1 : w2.cell? ⟨b1, 1, none⟩ = some (.pointer (some ⟨x.yb, 0, none⟩)) := cell_blk kk1 1
    generalize ((vis x.S.L).length : Int) = t at hN ⊢
    have he : (t == t) = true := by simp
    go_wp2_with fail
    refine hN.out.mono ?_
    rintro e w3 ⟨rfl, hB⟩
    go_wp2_with fail
    go_ret
    exact ⟨rfl, end_same hP2 hF hB⟩
  · have hC := hide (ask_clock x w1 hP)
    have h8 := hP.good.n8
    have hgl := hide h.lts
    go_wp2_with fail
    refine hC.out.mono ?_
    rintro e w2 ⟨rfl, hR2, hP2, hF⟩
    obtain ⟨hL2, hB2⟩ := h.same hj hb hP2 hF
    have hN := hide (ref_clock x.yb x.S _ _ _ _ _ _ w2 hP2.rf h8)
    have kk1 := hF.blk k1 n1
    have dd1 : w2.cell? ⟨b1, 1, none⟩ = some (.pointer (some ⟨x.yb, 0, none⟩)) := cell_blk kk1 1
    have hs2 := hF.size
    generalize hHg : w1.heap.size = H at hgl hR2 hs2 hb ⊢
    go_wp2_with fail
    refine hN.out.mono ?_
    rintro e w3 ⟨v, rfl, hR3, -, hg3⟩
    have hL3 := hL2.grown hg3
    have hR23 := hR2.grown hg3
    have hSm := hide (same_ints x.S h8 _ _ w3 hR23 hR3)
    go_wp2_with fail
    refine hSm.out.mono ?_
    rintro e w4 ⟨rfl, hg4⟩
    have hL4 := hL3.grown hg4
    have hR4 := hR23.grown hg4
    have hs4 := Nat.le_trans hs2 (Nat.le_trans hg3.size hg4.size)
    have hK := hide (keep_ints wb H x.S.n L.vl L.va L.vt L.vi L.irs (ckRow x.S) w4 hL4.cp hL4.i hR4 (ckRow_len _) h8 hlen)
    go_wp2_with fail
    refine hK.out.mono ?_
    rintro e w5 ⟨rfl, r, vi', hI, hc, hrow, hF5, hr5, hv5⟩
    obtain ⟨hL5, hB5⟩ := hL4.keepI hgl.out (Nat.le_refl _) hb hs4 hI hc hrow hF5 hr5 hv5
    go_wp2_with fail
    go_ret
    refine ⟨rfl, _, ?_, ?_, hL5,  (((hB1.trans hB2).grown hg3 (Nat.le_trans hb hs2) (by simp)).grown hg4 (Nat.le_trans hb (Nat.le_trans hs2 hg3.size)) (by simp)).trans hB5⟩
    · exact ⟨rfl, rfl, by simp, Nat.le_succ _, Nat.le_succ _⟩
    · rfl
  · have hC := hide (ask_pending x w1 hP)
    go_wp2_with fail
    refine hC.out.mono ?_
    rintro e w2 ⟨rfl, hP2, hF⟩
    have hN0 := ref_pending x.yb x.S _ _ _ _ _ _ w2 hP2.rf
    rw [hP2.wl.len] at hN0
    have hN := hide hN0
    clear hN0
    have kk1 := hF.blk k1 n1
    have dd1 : w2.cell? ⟨b1, 1, none⟩ = some (.pointer (some ⟨x.yb, 0, none⟩)) := cell_blk kk1 1
    go_wp2_with fail
    refine hN.out.mono ?_
    rintro e w3 ⟨rfl, hw3⟩
    rw [hw3]
    go_wp2_with fail
    go_ret
    exact ⟨rfl, end_same hP2 hF (Below.refl _ _)⟩
  · have hC := hide (ask_tick x w1 hP)
    go_wp2_with fail
    refine hC.out.mono ?_
    rintro e w2 ⟨rfl, hP2, hF⟩
    obtain ⟨hL2, hB2⟩ := h.same hj hb hP2 hF
    have hN := hide (ref_tick x.yb x.S hP.good _ _ _ _ _ _ w2 hP2.rf)
    have kk1 := hF.blk k1 n1
    have dd1 : w2.cell? ⟨b1, 1, none⟩ = some (.pointer (some ⟨x.yb, 0, none⟩)) := cell_blk kk1 1
    generalize digest x.S.n x.S.s x.S.cl = t at hN ⊢
    have htt : (t == t) = true := by simp
    go_wp2_with fail
    refine hN.out.mono ?_
    rintro e w3 ⟨rfl, g3⟩
    have hL3 := hL2.grown g3
    have g5 : w3.grownBy (w3.alloc (.cells #[str t] 9)) none := grown_alloc (grown_refl _) _
    have hSr : SrcAt (w3.alloc (.cells #[str t] 9)) (.slice (some ⟨w3.heap.size, 0, none⟩) 1 1) (strRow [t]) := src_new w3 [str t] _
    have hL5 := hL3.grown g5
    obtain ⟨aa, ca, hva, -⟩ := hL5.ar.value
    have y1 : w3.cell? ⟨wb, 1, none⟩ = some L.va := cell_blk hL3.cp 1
    rw [strRow_len] at hva
    rw [hva] at y1
    have HVA := hide hva
    clear hva
    have nwa : L.va.ownBlock ≠ some wb := hL5.ar.neBlk hL5.cp (by decide)
    have lA : (strRow L.air).length ≤ 4000000000 := by rw [strRow_len]; exact hair
    have lB : (strRow [t]).length = 1 := rfl
    have hRa' : RowAt 9 1 (.slice aa L.air.length ca) (strRow L.air) (w3.alloc (.cells #[str t] 9)) := by rw [← HVA.out]; exact hL5.ar
    have hcp5 := hL5.cp
    have hs2 := hF.size
    have hb3 : base ≤ w3.heap.size := Nat.le_trans hb (Nat.le_trans hs2 g3.size)
    have hBB : Below base w (w3.alloc (.cells #[str t] 9)) := (((hB1.trans hB2).grown g3 (Nat.le_trans hb hs2) (by simp)).grown g5 hb3 (by simp))
    have hb5 : base ≤ (w3.alloc (.cells #[str t] 9)).heap.size := Nat.le_trans hb3 g5.size
    have HL5 := hide hL5
    clear hL5 hL3 hC hN
    go_wp2_with (at_builtin; refine wpList_row Tryz.underlying26 infoStr rfl (by decide) rfl _ _ rfl _ _ rfl hRa' _ _ rfl hSr (strRow_one _) (strRow_cell _) (by unfold maxLen; omega) (by omega) ?_; intro v6 w6 hR6 hg6 hat; have k6 := (hg6.block _ (lt_of_heap hcp5) (fun p => nwa (by rw [HVA.out]; exact p.symm))).trans hcp5; have c6 : w6.cell? ⟨wb, 1, none⟩ = some (.slice aa L.air.length ca) := (cell_blk k6 1).trans (congrArg some HVA.out); have f6 : w6.frozen? ⟨wb, 1, none⟩ = false := frozen_blk k6 1; obtain ⟨a6, c7, hv6, -⟩ := hR6.value; generalize hn6 : (strRow L.air ++ strRow [t]).length = n6 at hv6; clear hn6; subst hv6)
    go_ret
    rw [← strRow_append] at hR6
    rw [← HVA.out] at hg6 hat
    have hn6 : (Value.slice a6 n6 c7).ownBlock ≠ some wb := hR6.neBlk k6 (by decide)
    obtain ⟨hL7, hB7⟩ := HL5.out.aired (w' := w6.setCell ⟨wb, 1, none⟩ (.slice a6 n6 c7)) (va' := .slice a6 n6 c7) (air' := L.air ++ [t]) hb5 ((set_blk k6).trans rfl) (hR6.kept (fun g hg => Below.heap_setCell _ _ _ _ (fun e => hn6 (by have e' : g = wb := e; rw [← e']; exact hg)))) ((((Fr.refl _ _).grown hg6 (fun k hk => .inl (List.mem_cons_of_mem _ (Option.mem_toList.2 hk)))) : Fr (wb :: L.va.ownBlock.toList) _ w6).setCell (p := ⟨wb, 1, none⟩) (.inl (by simp)) _) (fun k hk => by
      rcases hat with hat | hat
      · exact .inl (hat ▸ hk)
      · rw [hat] at hk; cases hk; exact .inr (Nat.le_refl _))
    refine ⟨rfl, _, ?_, ?_, hL7, hBB.trans hB7⟩
    · exact ⟨rfl, rfl, Nat.le_succ _, Nat.le_succ _, by simp⟩
    · rfl

end Go.Proofs.YtachmkhbbbmioaaGreat
