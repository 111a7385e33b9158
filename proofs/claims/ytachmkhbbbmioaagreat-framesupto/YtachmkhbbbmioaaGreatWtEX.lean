import Derived.Test.YtachmkhbbbmioaaGreatWtCX
import Derived.Deep.RegionLaw
import Derived.Deep.CutBlock
import Derived.Test.YtachmkhbbbmioaaGreatCuFX
namespace Go.Proofs.YtachmkhbbbmioaaGreat
open Go.RowKit Go.Shelf
attribute [local go_sem ↓] Go.wp_at_zero Go.wp_at_succ

/-- What waits has grown by one. -/
theorem RefAt.grewWait {yb : Nat} {S : CS} {vc vl vw vL : Value} {log wt : List (List Value)} {w3 w5 : World} {gg cap : Nat} {x8 : List Value} (h : RefAt yb S vc vl vw vL log wt w3) (hx : x8.length = 8)
    (hown : w5.ownsRow 0 88 8 (.slice (some ⟨gg, 0, none⟩) (wt.length + 1) cap) (wt.length + 1) (wt.flatten ++ x8)) (hg : w3.grownBy w5 vw.ownBlock) (hat : vw.ownBlock = some gg ∨ w3.heap.size ≤ gg) :
    RefAt yb S vc vl (.slice (some ⟨gg, 0, none⟩) (wt.length + 1) cap) vL log (wt ++ [x8]) (w5.setCell ⟨yb, 5, none⟩ (.slice (some ⟨gg, 0, none⟩) (wt.length + 1) cap)) := by
  have e : ∀ k, k < w3.heap.size → vw.ownBlock ≠ some k → w5.heap[k]? = w3.heap[k]? := fun k hk hn => hg.block k hk (Ne.symm hn)
  have hl : RowAt 88 8 (.slice (some ⟨gg, 0, none⟩) (wt.length + 1) cap) (wt ++ [x8]) w5 := by
    refine ⟨by simpa using hown, fun y hy => ?_⟩
    rcases List.mem_append.1 hy with hy | hy
    · exact h.wt.2 y hy
    · rw [List.mem_singleton.1 hy]; exact hx
  have hc := (e yb (lt_of_heap h.cp) (h.wt.neBlk h.cp (by decide))).trans h.cp
  have h1 := h.ck.kept (w' := w5) (fun g hg => e g (h.ck.lt hg) (h.ck.ne h.wt (by decide) hg))
  have h3 := h.lg.kept (w' := w5) (fun g hg => e g (h.lg.lt hg) (h.ap g hg))
  have h4 := h.ln.kept (w' := w5) (fun g hg => e g (h.ln.lt hg) (h.ln.ne h.wt (by decide) hg))
  have e' : ∀ k, k ≠ yb → (w5.setCell ⟨yb, 5, none⟩ (.slice (some ⟨gg, 0, none⟩) (wt.length + 1) cap)).heap[k]? = w5.heap[k]? := fun k hk => Below.heap_setCell _ _ _ _ hk
  refine ⟨(set_blk hc).trans rfl, h1.kept (fun g hg => e' g (fun q => h1.neBlk hc (by decide) (q ▸ hg))), h3.kept (fun g hg => e' g (fun q => h3.neBlk hc (by decide) (q ▸ hg))), hl.kept (fun g hg => e' g (fun q => hl.neBlk hc (by decide) (q ▸ hg))),
    h4.kept (fun g hg => e' g (fun q => h4.neBlk hc (by decide) (q ▸ hg))), fun g hg q => ?_⟩
  cases q
  rcases hat with hat | hat
  · exact h.ap _ hg hat
  · have : gg < w3.heap.size := h.lg.lt hg
    omega

theorem WtRows.at {n : Nat} {ks : List Nat} {wr : List (List Value)} {wt : List OpR} {w : World} (h : WtRows n ks wr wt w) : WtAt wr wt := ⟨h.len, fun j x hj => by obtain ⟨vk, h1, -⟩ := h.row j x hj; exact ⟨vk, h1⟩⟩

set_option maxRecDepth 100000 in
set_option maxHeartbeats 8000000 in
/-- takes: what is known, or waits, or finds no room. -/
theorem ref_takesA (yb : Nat) (S : CS) (hI : Inv S) (vc vl vw vL : Value) (log wr0 : List (List Value)) (ks : List Nat) (y : OpR) (h8 : Ok8 S.n y) (va : Option Addr) (vp : Nat) (w : World) (h : RB yb S vc vl vw vL log wr0 ks w)
    (hk : RowAt 3 1 (.slice va S.n vp) (ckRowQ S.n y.q) w) (hko : ∀ g, (Value.slice va S.n vp).ownBlock = some g → g ∈ ks) (hnr : knownS S y ∨ ¬ RdyS S y) :
    Calls Tryz.prog 72 #[.pointer (some ⟨yb, 0, none⟩), .agg #[.int .i64 y.o, .int .i64 y.num, .int .i64 y.c, .int .i64 y.kind, .int .i64 y.tc, .int .i64 y.tk, .int .i64 y.r, .slice va S.n vp]] w fun e w' => RbR yb (takesS S y) vc vl vw vL ks w e w' := by
  have ho := h8.o
  have hn8 := hI.good.n8
  obtain ⟨p, hp⟩ : ∃ p : Nat, y.o = (p : Int) + 1 := ⟨y.o.toNat - 1, by omega⟩
  have hpn : y.o.toNat - 1 = p := by omega
  have hpl : p < S.n := by omega
  have hwp : IntKind.i64.wrap (y.o - 1) = (p : Int) := by rw [IntKind.wrap_i64]; omega
  have HPN := hide hpn
  clear hpn hp
  have hclp := hI.good.cl p (by omega)
  have hl16 := hI.wo.len
  have hwl := h.wl.len
  have hw16 : wr0.length ≤ 16 := by omega
  have HWL := hide hwl
  clear hwl
  have hckl : (ckRow S).length = S.n := by simp [ckRow]
  obtain ⟨gc, cc, curc, hvc, -, -, -⟩ := h.rf.ck.cell (i := p) (ckRow_at S hpl)
  rw [hckl] at hvc
  subst hvc
  obtain ⟨aw, cw, hvw, -⟩ := h.rf.wt.value
  go_enter Tryz.func72, Tryz.ntmps72
  go_upto_region 1 with fail
  have g1 : w.grownBy (w.alloc (.cells #[.int .i64 y.o, .int .i64 y.num, .int .i64 y.c, .int .i64 y.kind, .int .i64 y.tc, .int .i64 y.tk, .int .i64 y.r, .slice va S.n vp] 88)) none := grown_alloc (grown_refl _) _
  have kb : (w.alloc (.cells #[.int .i64 y.o, .int .i64 y.num, .int .i64 y.c, .int .i64 y.kind, .int .i64 y.tc, .int .i64 y.tk, .int .i64 y.r, .slice va S.n vp] 88)).heap[w.heap.size]? = some (.cells #[.int .i64 y.o, .int .i64 y.num, .int .i64 y.c, .int .i64 y.kind, .int .i64 y.tc, .int .i64 y.tk, .int .i64 y.r, .slice va S.n vp] 88) := by rw [heap_alloc_at]; simp
  generalize (w.alloc (.cells #[.int .i64 y.o, .int .i64 y.num, .int .i64 y.c, .int .i64 y.kind, .int .i64 y.tc, .int .i64 y.tk, .int .i64 y.r, .slice va S.n vp] 88)) = w1 at g1 kb ⊢
  have hr1 := h.grown g1
  have hbb : ∀ k ∈ refOwn yb (.slice (some ⟨gc, 0, none⟩) S.n cc) vl vw vL, k ≠ w.heap.size := fun k hk => Nat.ne_of_lt (h.rf.lt k hk)
  generalize w.heap.size = bb at kb hbb ⊢
  have HW := hide (ref_waits yb S _ vl vw vL log wr0 S.wt h.wl.at (by omega) y.o y.num y.c y.kind y.tc y.tk y.r va S.n vp w1 hr1.rf)
  have d0 : w1.cell? ⟨bb, 0, none⟩ = some (.int .i64 y.o) := cell_blk kb 0
  have d1 : w1.cell? ⟨bb, 1, none⟩ = some (.int .i64 y.num) := cell_blk kb 1
  have d2 : w1.cell? ⟨bb, 2, none⟩ = some (.int .i64 y.c) := cell_blk kb 2
  have d3 : w1.cell? ⟨bb, 3, none⟩ = some (.int .i64 y.kind) := cell_blk kb 3
  have d4 : w1.cell? ⟨bb, 4, none⟩ = some (.int .i64 y.tc) := cell_blk kb 4
  have d5 : w1.cell? ⟨bb, 5, none⟩ = some (.int .i64 y.tk) := cell_blk kb 5
  have d6 : w1.cell? ⟨bb, 6, none⟩ = some (.int .i64 y.r) := cell_blk kb 6
  have d7 : w1.cell? ⟨bb, 7, none⟩ = some (.slice va S.n vp) := cell_blk kb 7
  go_wp2_with fail
  refine HW.out.mono ?_
  rintro e w2 ⟨bw, rfl, g2, hbw⟩
  have hr2 := hr1.grown g2
  have k2 := (g2.block _ (lt_of_heap kb) (by simp)).trans kb
  have hG2 := grown_trans g1 g2
  clear HW hr1 kb g1 g2 d0 d1 d2 d3 d4 d5 d6 d7
  have d0 : w2.cell? ⟨bb, 0, none⟩ = some (.int .i64 y.o) := cell_blk k2 0
  have d1 : w2.cell? ⟨bb, 1, none⟩ = some (.int .i64 y.num) := cell_blk k2 1
  have d2 : w2.cell? ⟨bb, 2, none⟩ = some (.int .i64 y.c) := cell_blk k2 2
  have d3 : w2.cell? ⟨bb, 3, none⟩ = some (.int .i64 y.kind) := cell_blk k2 3
  have d4 : w2.cell? ⟨bb, 4, none⟩ = some (.int .i64 y.tc) := cell_blk k2 4
  have d5 : w2.cell? ⟨bb, 5, none⟩ = some (.int .i64 y.tk) := cell_blk k2 5
  have d6 : w2.cell? ⟨bb, 6, none⟩ = some (.int .i64 y.r) := cell_blk k2 6
  have d7 : w2.cell? ⟨bb, 7, none⟩ = some (.slice va S.n vp) := cell_blk k2 7
  obtain ⟨gc', cc', cur, hv', -, hbc, hcc⟩ := hr2.rf.ck.cell (i := p) (ckRow_at S hpl)
  rw [hckl] at hv'
  cases hv'
  have e2 : w2.cell? ⟨yb, 2, none⟩ = some (.slice (some ⟨gc, 0, none⟩) S.n cc) := cell_blk hr2.rf.cp 2
  have ep : w2.cell? ⟨gc, p, none⟩ = some (.int .i64 (S.cl p)) := (cell_blk hbc _).trans (by simpa using hcc 0 _ rfl)
  have hpi : (p : Int) < (S.n : Int) := by omega
  have HKN : Hid (knownS S y ↔ (bw = true ∨ y.num ≤ S.cl p)) := hide (by unfold knownS; rw [HPN.out, hbw])
  clear hbw hcc hbc
  by_cases hkn : knownS S y
  · have HT : Hid (takesS S y = S) := hide (if_pos hkn)
    have HRB := hide hr2
    by_cases hnum : y.num ≤ S.cl p
    · clear hnr
      go_wp2_with fail
      go_quiet (fail)
      go_wp2_with fail
      go_end0
      exact ⟨rfl, vl, vw, vL, log, wr0, by rw [HT.out]; exact HRB.out.grown (grown_drewN _ _), (Fr.refl _ w).grown (grown_trans hG2 (grown_drewN _ _)) (by simp), fun k hk => .inl hk⟩
    · have hbt : bw = true := (HKN.out.1 hkn).resolve_right hnum
      subst hbt
      have hnd : decide (y.num ≤ S.cl p) = false := decide_eq_false hnum
      clear hnr hnum
      go_wp2_with fail
      go_quiet (fail)
      go_wp2_with fail
      go_end0
      exact ⟨rfl, vl, vw, vL, log, wr0, by rw [HT.out]; exact HRB.out.grown (grown_drewN _ _), (Fr.refl _ w).grown (grown_trans hG2 (grown_drewN _ _)) (by simp), fun k hk => .inl hk⟩
  · have hnum : ¬ y.num ≤ S.cl p := fun q => hkn (HKN.out.2 (.inr q))
    have hbf : bw = false := by
      cases bw with
      | false => rfl
      | true => exact (hkn (HKN.out.2 (.inl rfl))).elim
    subst hbf
    have hnd : decide (y.num ≤ S.cl p) = false := decide_eq_false hnum
    have hnrd := hnr.resolve_left hkn
    have HR0 := fun (n : Nat) => refReady_op yb S hI _ vl vw vL log wr0 y h8 va vp (w2.drewN n) (hr2.rf.grown (grown_drewN _ _)) ((hk.grown hG2).grown (grown_drewN _ _))
    have HR := hide HR0
    clear HR0 hnr hnum
    go_wp2_with fail
    go_quiet (fail)
    go_wp2_with fail
    refine (HR.out _).mono ?_
    rintro e w3 ⟨b, rfl, g3, hb⟩
    have hbf : b = false := by
      cases b with
      | false => rfl
      | true => exact (hnrd (hb.1 rfl)).elim
    subst hbf
    have hG3 := grown_trans hG2 (grown_trans (grown_drewN _ _) g3)
    have hr3 := hr2.grown (grown_trans (grown_drewN _ _) g3)
    have k3 := ((grown_trans (grown_drewN w2 _) g3).block _ (lt_of_heap k2) (by simp)).trans k2
    have hk3 := hk.grown hG3
    clear HR hb g3 k2 d0 d1 d2 d3 d4 d5 d6 d7 e2 ep hr2 hnd HKN
    have d0 : w3.cell? ⟨bb, 0, none⟩ = some (.int .i64 y.o) := cell_blk k3 0
    have d1 : w3.cell? ⟨bb, 1, none⟩ = some (.int .i64 y.num) := cell_blk k3 1
    have d2 : w3.cell? ⟨bb, 2, none⟩ = some (.int .i64 y.c) := cell_blk k3 2
    have d3 : w3.cell? ⟨bb, 3, none⟩ = some (.int .i64 y.kind) := cell_blk k3 3
    have d4 : w3.cell? ⟨bb, 4, none⟩ = some (.int .i64 y.tc) := cell_blk k3 4
    have d5 : w3.cell? ⟨bb, 5, none⟩ = some (.int .i64 y.tk) := cell_blk k3 5
    have d6 : w3.cell? ⟨bb, 6, none⟩ = some (.int .i64 y.r) := cell_blk k3 6
    have d7 : w3.cell? ⟨bb, 7, none⟩ = some (.slice va S.n vp) := cell_blk k3 7
    have e5 : w3.cell? ⟨yb, 5, none⟩ = some (.slice aw wr0.length cw) := by rw [← hvw]; exact cell_blk hr3.rf.cp 5
    by_cases hl : S.wt.length < 16
    · have hli : (wr0.length : Int) < 16 := by have := HWL.out; omega
      have HT : Hid (takesS S y = waitS S y) := hide (by unfold takesS; rw [if_neg hkn, if_neg hnrd, if_pos hl])
      obtain ⟨i0, hi0, hz0, hz1, hz2⟩ := info_parts infoOp
      have ny3 : vw.ownBlock ≠ some yb := hr3.rf.wt.neBlk hr3.rf.cp (by decide)
      have hyb3 : yb < w3.heap.size := lt_of_heap hr3.rf.cp
      have hlg := hr3.lg
      have hwl3 := hr3.wl
      have hs3 : w.heap.size ≤ w3.heap.size := hG3.size
      go_wp2_with fail
      go_region_law ((refine step_append_lies _ (by rfl) _ _ _ (by rfl) 0 88 i0 _ 8 80 Tryz.underlying41 hi0 hz0 hz1 hz2 rfl (by omega) (.slice aw wr0.length cw) wr0.length wr0.flatten (by rfl) ((by rw [← hvw]; exact (hr3.rf.wt.1.alloc _).drew)) ⟨w3.heap.size, 0, none⟩ 1 1 [.int .i64 y.o, .int .i64 y.num, .int .i64 y.c, .int .i64 y.kind, .int .i64 y.tc, .int .i64 y.tk, .int .i64 y.r, .slice va S.n vp] (by rfl) (by rfl) (World.news_of_block (cs := #[.int .i64 y.o, .int .i64 y.num, .int .i64 y.c, .int .i64 y.kind, .int .i64 y.tc, .int .i64 y.tk, .int .i64 y.r, .slice va S.n vp]) (t := 88) (fr := (0, 0)) (heap_alloc_new w3 _)) (by simp [Value.oneCell']) (by omega) (by unfold maxLen; omega) (by omega) (by simp) (w3.heap.size + 1) (by simp) ?_; intro gg capL w5 hown1 hgrow hat hlt5; rw [← hvw] at hgrow hat; have y5 : w5.heap[yb]? = w3.heap[yb]? := (hgrow.block yb (by simp; omega) (Ne.symm ny3)).trans (Below.heap_alloc _ _ _ hyb3); have y4 : w5.cell? ⟨yb, 5, none⟩ = some (.slice aw wr0.length cw) := (World.cell?_of_block (a := ⟨yb, 5, none⟩) y5).trans e5; have f4 : w5.frozen? ⟨yb, 5, none⟩ = false := (World.frozen?_of_block (a := ⟨yb, 5, none⟩) y5).trans (frozen_blk hr3.rf.cp 5)))
      all_goals (go_wp2_with fail; go_end0)
      all_goals
        have hgr : w3.grownBy w5 vw.ownBlock := grown_pre hgrow
        have hat' : vw.ownBlock = some gg ∨ w3.heap.size ≤ gg := hat.imp id (fun q => by omega)
        have hrf := hr3.rf.grewWait (x8 := [.int .i64 y.o, .int .i64 y.num, .int .i64 y.c, .int .i64 y.kind, .int .i64 y.tc, .int .i64 y.tk, .int .i64 y.r, .slice va S.n vp]) rfl hown1 hgr hat'
        have hF5 : Fr (refOwn yb (.slice (some ⟨gc, 0, none⟩) S.n cc) vl vw vL) w (w5.setCell ⟨yb, 5, none⟩ (.slice (some ⟨gg, 0, none⟩) (wr0.length + 1) capL)) := ((((Fr.refl _ w).grown hG3 (by simp)).grown hgr (fun k hk => .inl (by simp [refOwn, hk]))).setCell (p := ⟨yb, 5, none⟩) (.inl (by simp [refOwn])) _)
        have hF35 : Fr (refOwn yb (.slice (some ⟨gc, 0, none⟩) S.n cc) vl vw vL) w3 (w5.setCell ⟨yb, 5, none⟩ (.slice (some ⟨gg, 0, none⟩) (wr0.length + 1) capL)) := ((((Fr.refl _ w3)).grown hgr (fun k hk => .inl (by simp [refOwn, hk]))).setCell (p := ⟨yb, 5, none⟩) (.inl (by simp [refOwn])) _)
        have hkk := hr3.ksBlk hF35
        refine ⟨rfl, vl, .slice (some ⟨gg, 0, none⟩) (wr0.length + 1) capL, vL, log, wr0 ++ [opCells y (.slice va S.n vp)], ?_, hF5, refOwn_from3 (fun g hg => .inl hg) (fun g hg => ?_) (fun g hg => .inl hg)⟩
        · rw [HT.out]
          exact ⟨hrf.sameWt (S.wt ++ [y]), hlg.kept hkk, wtRows_push (hwl3.kept hkk) (hk3.kept (fun g hg => hkk g (hko g hg))) hko, h.kd⟩
        · simp only [Value.ownBlock, Option.some.injEq] at hg
          subst hg
          rcases hat' with q | q
          · exact .inl q
          · exact .inr (by omega)
    · have hli : ¬ (wr0.length : Int) < 16 := by have := HWL.out; omega
      have HT : Hid (takesS S y = S) := hide (by unfold takesS; rw [if_neg hkn, if_neg hnrd, if_neg hl])
      have HRB := hide hr3
      go_wp2_with fail
      go_end0
      exact ⟨rfl, vl, vw, vL, log, wr0, by rw [HT.out]; exact HRB.out, (Fr.refl _ w).grown hG3 (by simp), fun k hk => .inl hk⟩

end Go.Proofs.YtachmkhbbbmioaaGreat

namespace Go.Proofs.YtachmkhbbbmioaaGreat
open Go.RowKit Go.Shelf
attribute [local go_sem ↓] Go.wp_at_zero Go.wp_at_succ

set_option maxRecDepth 100000 in
set_option maxHeartbeats 8000000 in
/-- takes: what is ready. -/
theorem ref_takesB (yb : Nat) (S : CS) (hI : Inv S) (vc vl vw vL : Value) (log wr0 : List (List Value)) (ks : List Nat) (y : OpR) (h8 : Ok8 S.n y) (va : Option Addr) (vp : Nat) (w : World) (h : RB yb S vc vl vw vL log wr0 ks w)
    (hk : RowAt 3 1 (.slice va S.n vp) (ckRowQ S.n y.q) w) (hko : ∀ g, (Value.slice va S.n vp).ownBlock = some g → g ∈ ks) (hkn : ¬ knownS S y) (hrd : RdyS S y) :
    Calls Tryz.prog 72 #[.pointer (some ⟨yb, 0, none⟩), .agg #[.int .i64 y.o, .int .i64 y.num, .int .i64 y.c, .int .i64 y.kind, .int .i64 y.tc, .int .i64 y.tk, .int .i64 y.r, .slice va S.n vp]] w fun e w' => RbR yb (takesS S y) vc vl vw vL ks w e w' := by
  have ho := h8.o
  have hn8 := hI.good.n8
  obtain ⟨p, hp⟩ : ∃ p : Nat, y.o = (p : Int) + 1 := ⟨y.o.toNat - 1, by omega⟩
  have hpn : y.o.toNat - 1 = p := by omega
  have hpl : p < S.n := by omega
  have hwp : IntKind.i64.wrap (y.o - 1) = (p : Int) := by rw [IntKind.wrap_i64]; omega
  have HPN := hide hpn
  clear hpn hp
  have hl16 := hI.wo.len
  have hckl : (ckRow S).length = S.n := by simp [ckRow]
  have HT : Hid (takesS S y = drainS (applyS S y).wt.length (applyS S y)) := hide (by unfold takesS; rw [if_neg hkn, if_pos hrd]; rfl)
  obtain ⟨gc, cc, curc, hvc, -, -, -⟩ := h.rf.ck.cell (i := p) (ckRow_at S hpl)
  rw [hckl] at hvc
  subst hvc
  go_enter Tryz.func72, Tryz.ntmps72
  go_upto_region 1 with fail
  have g1 : w.grownBy (w.alloc (.cells #[.int .i64 y.o, .int .i64 y.num, .int .i64 y.c, .int .i64 y.kind, .int .i64 y.tc, .int .i64 y.tk, .int .i64 y.r, .slice va S.n vp] 88)) none := grown_alloc (grown_refl _) _
  have kb : (w.alloc (.cells #[.int .i64 y.o, .int .i64 y.num, .int .i64 y.c, .int .i64 y.kind, .int .i64 y.tc, .int .i64 y.tk, .int .i64 y.r, .slice va S.n vp] 88)).heap[w.heap.size]? = some (.cells #[.int .i64 y.o, .int .i64 y.num, .int .i64 y.c, .int .i64 y.kind, .int .i64 y.tc, .int .i64 y.tk, .int .i64 y.r, .slice va S.n vp] 88) := by rw [heap_alloc_at]; simp
  generalize (w.alloc (.cells #[.int .i64 y.o, .int .i64 y.num, .int .i64 y.c, .int .i64 y.kind, .int .i64 y.tc, .int .i64 y.tk, .int .i64 y.r, .slice va S.n vp] 88)) = w1 at g1 kb ⊢
  have hr1 := h.grown g1
  have hbb : ∀ k ∈ refOwn yb (.slice (some ⟨gc, 0, none⟩) S.n cc) vl vw vL, k ≠ w.heap.size := fun k hk => Nat.ne_of_lt (h.rf.lt k hk)
  generalize w.heap.size = bb at kb hbb ⊢
  have HW := hide (ref_waits yb S _ vl vw vL log wr0 S.wt h.wl.at (by omega) y.o y.num y.c y.kind y.tc y.tk y.r va S.n vp w1 hr1.rf)
  have d0 : w1.cell? ⟨bb, 0, none⟩ = some (.int .i64 y.o) := cell_blk kb 0
  have d1 : w1.cell? ⟨bb, 1, none⟩ = some (.int .i64 y.num) := cell_blk kb 1
  have d2 : w1.cell? ⟨bb, 2, none⟩ = some (.int .i64 y.c) := cell_blk kb 2
  have d3 : w1.cell? ⟨bb, 3, none⟩ = some (.int .i64 y.kind) := cell_blk kb 3
  have d4 : w1.cell? ⟨bb, 4, none⟩ = some (.int .i64 y.tc) := cell_blk kb 4
  have d5 : w1.cell? ⟨bb, 5, none⟩ = some (.int .i64 y.tk) := cell_blk kb 5
  have d6 : w1.cell? ⟨bb, 6, none⟩ = some (.int .i64 y.r) := cell_blk kb 6
  have d7 : w1.cell? ⟨bb, 7, none⟩ = some (.slice va S.n vp) := cell_blk kb 7
  go_wp2_with fail
  refine HW.out.mono ?_
  rintro e w2 ⟨bw, rfl, g2, hbw⟩
  have hr2 := hr1.grown g2
  have k2 := (g2.block _ (lt_of_heap kb) (by simp)).trans kb
  have hG2 := grown_trans g1 g2
  have hbf : bw = false := by
    cases bw with
    | false => rfl
    | true => exact (hkn (.inl (hbw.1 rfl))).elim
  subst hbf
  have hnum : ¬ y.num ≤ S.cl p := fun q => hkn (.inr (by rw [HPN.out]; exact q))
  have hnd : decide (y.num ≤ S.cl p) = false := decide_eq_false hnum
  clear HW hr1 kb g1 g2 d0 d1 d2 d3 d4 d5 d6 d7 hbw hnum
  have d0 : w2.cell? ⟨bb, 0, none⟩ = some (.int .i64 y.o) := cell_blk k2 0
  have d1 : w2.cell? ⟨bb, 1, none⟩ = some (.int .i64 y.num) := cell_blk k2 1
  have d2 : w2.cell? ⟨bb, 2, none⟩ = some (.int .i64 y.c) := cell_blk k2 2
  have d3 : w2.cell? ⟨bb, 3, none⟩ = some (.int .i64 y.kind) := cell_blk k2 3
  have d4 : w2.cell? ⟨bb, 4, none⟩ = some (.int .i64 y.tc) := cell_blk k2 4
  have d5 : w2.cell? ⟨bb, 5, none⟩ = some (.int .i64 y.tk) := cell_blk k2 5
  have d6 : w2.cell? ⟨bb, 6, none⟩ = some (.int .i64 y.r) := cell_blk k2 6
  have d7 : w2.cell? ⟨bb, 7, none⟩ = some (.slice va S.n vp) := cell_blk k2 7
  obtain ⟨gc', cc', cur, hv', -, hbc, hcc⟩ := hr2.rf.ck.cell (i := p) (ckRow_at S hpl)
  rw [hckl] at hv'
  cases hv'
  have e2 : w2.cell? ⟨yb, 2, none⟩ = some (.slice (some ⟨gc, 0, none⟩) S.n cc) := cell_blk hr2.rf.cp 2
  have ep : w2.cell? ⟨gc, p, none⟩ = some (.int .i64 (S.cl p)) := (cell_blk hbc _).trans (by simpa using hcc 0 _ rfl)
  have hpi : (p : Int) < (S.n : Int) := by omega
  clear hcc hbc
  have HR0 := fun (n : Nat) => refReady_op yb S hI _ vl vw vL log wr0 y h8 va vp (w2.drewN n) (hr2.rf.grown (grown_drewN _ _)) ((hk.grown hG2).grown (grown_drewN _ _))
  have HR := hide HR0
  clear HR0
  go_wp2_with fail
  go_quiet (fail)
  go_wp2_with fail
  refine (HR.out _).mono ?_
  rintro e w3 ⟨b, rfl, g3, hb⟩
  obtain rfl : b = true := hb.2 hrd
  have hG3 := grown_trans hG2 (grown_trans (grown_drewN _ _) g3)
  have hr3 := hr2.grown (grown_trans (grown_drewN _ _) g3)
  have k3 := ((grown_trans (grown_drewN w2 _) g3).block _ (lt_of_heap k2) (by simp)).trans k2
  have HA := hide (ref_applyB yb S hI _ vl vw vL log wr0 ks y h8 hrd va vp w3 hr3 (hk.grown hG3) hko)
  clear HR hb g3 k2 d0 d1 d2 d3 d4 d5 d6 d7 e2 ep hr2 hnd
  have d0 : w3.cell? ⟨bb, 0, none⟩ = some (.int .i64 y.o) := cell_blk k3 0
  have d1 : w3.cell? ⟨bb, 1, none⟩ = some (.int .i64 y.num) := cell_blk k3 1
  have d2 : w3.cell? ⟨bb, 2, none⟩ = some (.int .i64 y.c) := cell_blk k3 2
  have d3 : w3.cell? ⟨bb, 3, none⟩ = some (.int .i64 y.kind) := cell_blk k3 3
  have d4 : w3.cell? ⟨bb, 4, none⟩ = some (.int .i64 y.tc) := cell_blk k3 4
  have d5 : w3.cell? ⟨bb, 5, none⟩ = some (.int .i64 y.tk) := cell_blk k3 5
  have d6 : w3.cell? ⟨bb, 6, none⟩ = some (.int .i64 y.r) := cell_blk k3 6
  have d7 : w3.cell? ⟨bb, 7, none⟩ = some (.slice va S.n vp) := cell_blk k3 7
  go_wp2_with fail
  refine HA.out.mono ?_
  rintro e w4 ⟨rfl, vl1, vw1, vL1, log1, wr1, hB4, hF4, hO4⟩
  have hI4 := inv_apply hI h8 hrd
  have HN4 := hide (ref_next yb (applyS S y) hI4 _ vl1 vw1 vL1 log1 wr1 ks w4 hB4.rf hB4.wl)
  clear HA k3 d0 d1 d2 d3 d4 d5 d6 d7
  go_wp2_with fail
  refine HN4.out.mono ?_
  rintro e w5 ⟨k5, rfl, g5, hk5⟩
  have HX5 : Hid (RB yb (applyS S y) (.slice (some ⟨gc, 0, none⟩) S.n cc) vl1 vw1 vL1 log1 wr1 ks w5) := hide (hB4.grown g5)
  have HF5 : Hid (Fr (refOwn yb (.slice (some ⟨gc, 0, none⟩) S.n cc) vl vw vL) w w5 ∧ OwnFrom (refOwn yb (.slice (some ⟨gc, 0, none⟩) S.n cc) vl vw vL) (refOwn yb (.slice (some ⟨gc, 0, none⟩) S.n cc) vl1 vw1 vL1) w.heap.size) := hide ⟨(((Fr.refl _ w).grown hG3 (by simp)).trans hF4).grown g5 (by simp), hO4.mono hG3.size⟩
  clear HN4 g5 hF4 hO4 hB4 hr3
  obtain ⟨T, hT⟩ : ∃ T, takesS S y = T := ⟨_, rfl⟩
  rw [hT] at HT
  have HTT := hide hT
  clear hT
  have hIk := hide (And.intro hI4 hk5)
  clear hI4 hk5
  go_wp2_with fail
  go_loopg [6] (applyS S y).wt.length (fun gk s6 wr => ∃ (S' : CS) (vl1 vw1 vL1 : Value) (log1 wr1 : List (List Value)) (k : Int), s6 = .int .i64 k ∧ gk = S'.wt.length ∧ Hid (S'.n = S.n) ∧ Hid (RB yb S' (.slice (some ⟨gc, 0, none⟩) S.n cc) vl1 vw1 vL1 log1 wr1 ks wr ∧ Inv S' ∧ ((k = -1 ∧ NoNext S') ∨ ∃ (j : Nat) (x : OpR), k = j ∧ S'.wt[j]? = some x ∧ IsNext S' x) ∧ T = drainS S'.wt.length S') ∧
    Hid (Fr (refOwn yb (.slice (some ⟨gc, 0, none⟩) S.n cc) vl vw vL) w wr ∧ OwnFrom (refOwn yb (.slice (some ⟨gc, 0, none⟩) S.n cc) vl vw vL) (refOwn yb (.slice (some ⟨gc, 0, none⟩) S.n cc) vl1 vw1 vL1) w.heap.size))
  case atStart => exact ⟨applyS S y, vl1, vw1, vL1, log1, wr1, k5, rfl, rfl, hide rfl, hide ⟨HX5.out, hIk.out.1, hIk.out.2, HT.out⟩, HF5⟩
  case round =>
    clear HX5 HF5 hIk HT
    obtain ⟨S', vl1, vw1, vL1, log1, wr1, k, rfl, hgk, hnn, HX, HF⟩ := hrel
    obtain ⟨hRB, hI', hnx, hdr⟩ := HX.out
    rcases hnx with ⟨rfl, hno⟩ | ⟨j, x, rfl, hx, hnx⟩
    · have HT : Hid (T = S') := hide (hdr.trans (drain_stop hno _))
      have HRB := hide hRB
      clear hno hdr HX hI' hRB
      go_wp2_with fail
      go_end0
      exact ⟨rfl, vl1, vw1, vL1, log1, wr1, by rw [HTT.out, HT.out]; exact HRB.out, HF.out.1, HF.out.2⟩
    · have hjl : j < S'.wt.length := (List.getElem?_eq_some_iff.1 hx).1
      have hl16' := hI'.wo.len
      have hwl := hRB.wl.len
      obtain ⟨vk, hk1, hk2, hk3⟩ := hRB.wl.row j x hx
      obtain ⟨xa, xp, rfl, -⟩ := hk2.value
      have ekl : (ckRowQ S'.n x.q).length = S'.n := by simp [ckRowQ]
      rw [ekl] at hk1 hk2 hk3
      obtain ⟨gw, cw, cur, hv', -, hb, hc⟩ := hRB.rf.wt.cell (i := j) hk1
      obtain ⟨nw, hnw⟩ : ∃ nw, wr1.length = nw := ⟨_, rfl⟩
      rw [hnw] at hv'
      subst hv'
      have hjn : j < nw := by omega
      have hn16 : nw ≤ 16 := by omega
      have r0 : wr.cell? ⟨gw, j * 8, none⟩ = some (.int .i64 x.o) := (cell_blk hb _).trans (hc 0 _ rfl)
      have r1 : wr.cell? ⟨gw, j * 8 + 1, none⟩ = some (.int .i64 x.num) := (cell_blk hb _).trans (hc 1 _ rfl)
      have r2 : wr.cell? ⟨gw, j * 8 + 2, none⟩ = some (.int .i64 x.c) := (cell_blk hb _).trans (hc 2 _ rfl)
      have r3 : wr.cell? ⟨gw, j * 8 + 3, none⟩ = some (.int .i64 x.kind) := (cell_blk hb _).trans (hc 3 _ rfl)
      have r4 : wr.cell? ⟨gw, j * 8 + 4, none⟩ = some (.int .i64 x.tc) := (cell_blk hb _).trans (hc 4 _ rfl)
      have r5 : wr.cell? ⟨gw, j * 8 + 5, none⟩ = some (.int .i64 x.tk) := (cell_blk hb _).trans (hc 5 _ rfl)
      have r6 : wr.cell? ⟨gw, j * 8 + 6, none⟩ = some (.int .i64 x.r) := (cell_blk hb _).trans (hc 6 _ rfl)
      have r7 : wr.cell? ⟨gw, j * 8 + 7, none⟩ = some (.slice xa S'.n xp) := (cell_blk hb _).trans (hc 7 _ rfl)
      have e5 : wr.cell? ⟨yb, 5, none⟩ = some (.slice (some ⟨gw, 0, none⟩) nw cw) := cell_blk hRB.rf.cp 5
      have hj0 : (0 : Int) ≤ (j : Int) := by omega
      have hji : (j : Int) < (nw : Int) := by omega
      have hwj : IntKind.i64.wrap ((j : Int) + 1) = (j : Int) + 1 := by rw [IntKind.wrap_i64]; omega
      have HWL := hide (And.intro hwl hnw)
      clear hb hc hk1 hwl hnw
      go_upto_region 12 with fail
      have g6 : wr.grownBy (wr.alloc (.cells #[.int .i64 x.o, .int .i64 x.num, .int .i64 x.c, .int .i64 x.kind, .int .i64 x.tc, .int .i64 x.tk, .int .i64 x.r, .slice xa S'.n xp] 88)) none := grown_alloc (grown_refl _) _
      have k6 : (wr.alloc (.cells #[.int .i64 x.o, .int .i64 x.num, .int .i64 x.c, .int .i64 x.kind, .int .i64 x.tc, .int .i64 x.tk, .int .i64 x.r, .slice xa S'.n xp] 88)).heap[wr.heap.size]? = some (.cells #[.int .i64 x.o, .int .i64 x.num, .int .i64 x.c, .int .i64 x.kind, .int .i64 x.tc, .int .i64 x.tk, .int .i64 x.r, .slice xa S'.n xp] 88) := by rw [heap_alloc_at]; simp
      generalize (wr.alloc (.cells #[.int .i64 x.o, .int .i64 x.num, .int .i64 x.c, .int .i64 x.kind, .int .i64 x.tc, .int .i64 x.tk, .int .i64 x.r, .slice xa S'.n xp] 88)) = w6 at g6 k6 ⊢
      have hB6 := hRB.grown g6
      have hk6 := hk2.grown g6
      have hFr6 : Fr (refOwn yb (.slice (some ⟨gc, 0, none⟩) S.n cc) vl vw vL) w w6 := HF.out.1.grown g6 (by simp)
      have hsw : w.heap.size ≤ wr.heap.size := HF.out.1.size
      have hs6 : wr.heap.size < w6.heap.size := lt_of_heap k6
      generalize wr.heap.size = b6 at k6 hs6 hsw ⊢
      clear r0 r1 r2 r3 r4 r5 r6 r7 e5
      have e5 : w6.cell? ⟨yb, 5, none⟩ = some (.slice (some ⟨gw, 0, none⟩) nw cw) := cell_blk hB6.rf.cp 5
      obtain ⟨u1, hs1, hsrc1⟩ := hB6.rf.wt.lo (t := 41) (by kernel_rfl) (fun w => by kernel_rfl) j (by have := HWL.out.2; omega)
      obtain ⟨u2, hs2, hsrc2⟩ := hB6.rf.wt.hi (t := 41) (by kernel_rfl) (fun w => by kernel_rfl) (j + 1) (by have := HWL.out.2; omega)
      rw [show ((j + 1 : Nat) : Int) = (j : Int) + 1 by omega] at hs2
      have hq1 := hsrc1 w6 (fun _ _ => rfl)
      have hnil := row_nil 88 8 w6
      have h8r : ∀ z ∈ wr1, z.length = 8 := hB6.rf.wt.2
      have h1r := hB6.wl.one
      have hl1 : (wr1.take j).length ≤ 16 := by have := HWL.out.2; simp; omega
      have hl2 : (wr1.drop (j + 1)).length ≤ 16 := by have := HWL.out.2; simp; omega
      clear hsrc1
      go_upto_region 14 with (at_builtin; refine wpList_row Tryz.underlying41 infoOp rfl (by decide) rfl _ _ rfl (.slice none 0 0) [] rfl hnil u1 _ rfl hq1 (fun z hz => h8r z (List.mem_of_mem_take hz)) (fun z hz => h1r z (List.mem_of_mem_take hz)) (by unfold maxLen; simp at hl1 ⊢; omega) (by simp at hl1 ⊢; omega) ?_; intro v1 w8 hR8 hg8 hat8)
      have hv1 : ∀ b, v1.ownBlock = some b → w6.heap.size ≤ b := by
        intro b hb
        rcases hat8 with q | q
        · rw [q] at hb; cases hb
        · rw [q] at hb; cases hb; exact Nat.le_refl _
      rw [List.nil_append] at hR8
      have K8 : ∀ k, k < w6.heap.size → w8.heap[k]? = w6.heap[k]? := fun k hk => hg8.block k hk (by simp [Value.ownBlock])
      have hs8 : w6.heap.size ≤ w8.heap.size := hg8.size
      have hF8 : Fr (refOwn yb (.slice (some ⟨gc, 0, none⟩) S.n cc) vl vw vL) w w8 := hFr6.grown hg8 (by simp [Value.ownBlock])
      have e58 : w8.cell? ⟨yb, 5, none⟩ = some (.slice (some ⟨gw, 0, none⟩) nw cw) := (World.cell?_of_block (a := ⟨yb, 5, none⟩) (K8 yb (lt_of_heap hB6.rf.cp))).trans e5
      have hq2 := hsrc2 w8 (fun g hg => K8 g (hB6.rf.wt.lt hg))
      clear hg8 hat8 hq1 hnil hs1 hsrc2
      have F10 : Hid (∀ (w10 : World), w8.grownBy w10 v1.ownBlock → (∀ k, k < w6.heap.size → w10.heap[k]? = w6.heap[k]?) ∧ w10.cell? ⟨yb, 5, none⟩ = some (.slice (some ⟨gw, 0, none⟩) nw cw) ∧ w10.frozen? ⟨yb, 5, none⟩ = false) := hide (by
        intro w10 hg10
        have K10 : ∀ k, k < w6.heap.size → w10.heap[k]? = w6.heap[k]? := fun k hk => (hg10.block k (by omega) (fun q => by have := hv1 k q.symm; omega)).trans (K8 k hk)
        have hy := (K10 yb (lt_of_heap hB6.rf.cp)).trans hB6.rf.cp
        exact ⟨K10, cell_blk hy 5, frozen_blk hy 5⟩)
      go_upto_region 15 with (at_builtin; refine wpList_row Tryz.underlying41 infoOp rfl (by decide) rfl _ _ rfl v1 _ rfl hR8 u2 _ rfl hq2 (fun z hz => h8r z (List.mem_of_mem_drop hz)) (fun z hz => h1r z (List.mem_of_mem_drop hz)) (by unfold maxLen; simp at hl1 hl2 ⊢; omega) (by simp at hl1 hl2 ⊢; omega) ?_; intro v3 w10 hR10 hg10 hat10; obtain ⟨K10, y6, f6⟩ := F10.out w10 hg10; obtain ⟨a3, c3, hv3, -⟩ := hR10.value; generalize hn3 : (wr1.take j ++ wr1.drop (j + 1)).length = n3 at hv3; clear hn3; subst hv3)
      have hv3 : ∀ b, (Value.slice a3 n3 c3).ownBlock = some b → w6.heap.size ≤ b := by
        intro b hb
        rcases hat10 with q | q
        · exact hv1 b (q ▸ hb)
        · rw [q] at hb; cases hb; omega
      have hF10 : Fr (refOwn yb (.slice (some ⟨gc, 0, none⟩) S.n cc) vl vw vL) w (w10.setCell ⟨yb, 5, none⟩ (.slice a3 n3 c3)) := (hF8.grown hg10 (fun k hk => .inr (by have := hv1 k hk; omega))).setCell (p := ⟨yb, 5, none⟩) (.inl (by simp [refOwn])) _
      have hr10 := hB6.rf.kept (w' := w10) (fun k hk => K10 k (hB6.rf.lt k hk))
      have hr11 := (hr10.waited hR10 (fun g hg q => by have h1 := hB6.rf.lg.lt hg; have h2 := hv3 g q; omega)).sameWt (S'.wt.take j ++ S'.wt.drop (j + 1))
      have hyks : ∀ k ∈ ks, k ≠ yb := fun k hk q => by
        obtain ⟨c, hc⟩ := hB6.lg.blk k hk
        rw [q, hB6.rf.cp] at hc
        cases hc
      have hkk : ∀ k ∈ ks, (w10.setCell ⟨yb, 5, none⟩ (.slice a3 n3 c3)).heap[k]? = w6.heap[k]? := fun k hk => (Below.heap_setCell _ _ _ _ (hyks k hk)).trans (K10 k (hB6.lg.lt k hk))
      have hby : b6 ≠ yb := fun q => by rw [q, hB6.rf.cp] at k6; simp at k6
      have k11 : (w10.setCell ⟨yb, 5, none⟩ (.slice a3 n3 c3)).heap[b6]? = some (.cells #[.int .i64 x.o, .int .i64 x.num, .int .i64 x.c, .int .i64 x.kind, .int .i64 x.tc, .int .i64 x.tk, .int .i64 x.r, .slice xa S'.n xp] 88) := ((Below.heap_setCell _ _ _ _ hby).trans (K10 b6 hs6)).trans k6
      have eS : ({ S' with wt := S'.wt.take j ++ S'.wt.drop (j + 1) } : CS) = remS S' x := by unfold remS; rw [rem_idx hI'.wo.one hx]
      have hB11 : RB yb (remS S' x) (.slice (some ⟨gc, 0, none⟩) S.n cc) vl1 (.slice a3 n3 c3) vL1 log1 (wr1.take j ++ wr1.drop (j + 1)) ks (w10.setCell ⟨yb, 5, none⟩ (.slice a3 n3 c3)) := by
        rw [← eS]
        exact ⟨hr11, hB6.lg.kept hkk, (wtRows_rem hB6.wl j).kept hkk, hB6.kd⟩
      have hkx := hk6.kept (w' := w10.setCell ⟨yb, 5, none⟩ (.slice a3 n3 c3)) (fun g hg => hkk g (hk3 g hg))
      have hO11 : OwnFrom (refOwn yb (.slice (some ⟨gc, 0, none⟩) S.n cc) vl vw vL) (refOwn yb (.slice (some ⟨gc, 0, none⟩) S.n cc) vl1 (.slice a3 n3 c3) vL1) w.heap.size := HF.out.2.trans (refOwn_from3 (fun g hg => .inl hg) (fun g hg => .inr (hv3 g hg)) (fun g hg => .inl hg)) (by omega)
      have hs11 : (w10.setCell ⟨yb, 5, none⟩ (.slice a3 n3 c3)).heap.size = w10.heap.size := by simp [World.setCell]
      generalize (w10.setCell ⟨yb, 5, none⟩ (.slice a3 n3 c3)) = w11 at hF10 hr11 k11 hB11 hkx hs11 ⊢
      have HA := hide (ref_applyB yb (remS S' x) (inv_rem hI' x) _ vl1 (.slice a3 n3 c3) vL1 log1 (wr1.take j ++ wr1.drop (j + 1)) ks x (hI'.wo.ok x hnx.1) hnx.2.1 xa xp w11 hB11 hkx hk3)
      have HI := hide (And.intro (inv_step hI' hnx) (And.intro (hdr.trans (drain_step hI'.wo hnx)) (rem_len hI'.wo hnx.1)))
      have HF10 := hide (And.intro hF10 hO11)
      clear hF10 hO11 hB11 hr11 hr10 hkk hyks F10 hR10 hg10 hat10 K10 y6 f6 hs2 hq2 hR8 K8 hF8 e58 e5 hFr6 HX hRB hI' hx hnx hdr hB6 hk6 hk2 HF h8r h1r k6 eS
      have d0 : w11.cell? ⟨b6, 0, none⟩ = some (.int .i64 x.o) := cell_blk k11 0
      have d1 : w11.cell? ⟨b6, 1, none⟩ = some (.int .i64 x.num) := cell_blk k11 1
      have d2 : w11.cell? ⟨b6, 2, none⟩ = some (.int .i64 x.c) := cell_blk k11 2
      have d3 : w11.cell? ⟨b6, 3, none⟩ = some (.int .i64 x.kind) := cell_blk k11 3
      have d4 : w11.cell? ⟨b6, 4, none⟩ = some (.int .i64 x.tc) := cell_blk k11 4
      have d5 : w11.cell? ⟨b6, 5, none⟩ = some (.int .i64 x.tk) := cell_blk k11 5
      have d6 : w11.cell? ⟨b6, 6, none⟩ = some (.int .i64 x.r) := cell_blk k11 6
      have d7 : w11.cell? ⟨b6, 7, none⟩ = some (.slice xa S'.n xp) := cell_blk k11 7
      go_wp2_with fail
      refine HA.out.mono ?_
      rintro e w12 ⟨rfl, vl2, vw2, vL2, log2, wr2, hB12, hF12, hO12⟩
      have HN := hide (ref_next yb (applyS (remS S' x) x) HI.out.1 _ vl2 vw2 vL2 log2 wr2 ks w12 hB12.rf hB12.wl)
      go_wp2_with fail
      refine HN.out.mono ?_
      rintro e w13 ⟨k13, rfl, g13, hk13⟩
      have hs1113 : w.heap.size ≤ w11.heap.size := HF10.out.1.size
      go_wp2_with fail
      go_roundg (applyS (remS S' x) x).wt.length
      case measure => have := HI.out.2.2; show (remW x S'.wt).length < _; omega
      case rel => exact ⟨applyS (remS S' x) x, vl2, vw2, vL2, log2, wr2, k13, rfl, rfl, hnn, hide ⟨hB12.grown g13, HI.out.1, hk13, HI.out.2.1⟩, hide ⟨(HF10.out.1.own HF10.out.2 hF12).grown g13 (by simp), HF10.out.2.trans hO12 hs1113⟩⟩

end Go.Proofs.YtachmkhbbbmioaaGreat

namespace Go.Proofs.YtachmkhbbbmioaaGreat
open Go.RowKit Go.Shelf
attribute [local go_sem ↓] Go.wp_at_zero Go.wp_at_succ

theorem ref_takes (yb : Nat) (S : CS) (hI : Inv S) (vc vl vw vL : Value) (log wr0 : List (List Value)) (ks : List Nat) (y : OpR) (h8 : Ok8 S.n y) (va : Option Addr) (vp : Nat) (w : World) (h : RB yb S vc vl vw vL log wr0 ks w)
    (hk : RowAt 3 1 (.slice va S.n vp) (ckRowQ S.n y.q) w) (hko : ∀ g, (Value.slice va S.n vp).ownBlock = some g → g ∈ ks) :
    Calls Tryz.prog 72 #[.pointer (some ⟨yb, 0, none⟩), .agg #[.int .i64 y.o, .int .i64 y.num, .int .i64 y.c, .int .i64 y.kind, .int .i64 y.tc, .int .i64 y.tk, .int .i64 y.r, .slice va S.n vp]] w fun e w' => RbR yb (takesS S y) vc vl vw vL ks w e w' := by
  by_cases hkn : knownS S y
  · exact ref_takesA yb S hI vc vl vw vL log wr0 ks y h8 va vp w h hk hko (.inl hkn)
  · by_cases hrd : RdyS S y
    · exact ref_takesB yb S hI vc vl vw vL log wr0 ks y h8 va vp w h hk hko hkn hrd
    · exact ref_takesA yb S hI vc vl vw vL log wr0 ks y h8 va vp w h hk hko (.inr hrd)

set_option maxRecDepth 100000 in
set_option maxHeartbeats 4000000 in
theorem ref_handNo (yb : Nat) (S : CS) (hG : Good S) (vc vl vw vL : Value) (log wt : List (List Value)) (D : List UInt8) (hD : NoFr S.n D) (w : World) (h : RefAt yb S vc vl vw vL log wt w) :
    Calls Tryz.prog 37 #[.pointer (some ⟨yb, 0, none⟩), str D] w fun e w' => e = .returned (.tuple #[.slice none 0 0, .int .i64 6]) ∧ w.grownBy w' none := by
  have h8 := hG.n8
  have h1 : 1 ≤ S.n := Nat.le_trans hG.s1 hG.sn
  have c0 : w.cell? ⟨yb, 0, none⟩ = some (.int .i64 S.n) := cell_blk h.cp 0
  have HR : Hid (Calls Tryz.prog 69 #[str D, .int .i64 S.n] w fun e w' => ∃ a b1 n1 c1 b2 n2 c2, e = .returned (.tuple #[.agg #[.int .i64 a, .slice b1 n1 c1, .slice b2 n2 c2], .bool false]) ∧ w.grownBy w' none) := hide ((readR8 S.n h1 h8 D w).mono (by
    rintro e w' ⟨g, ⟨fv, rfl, -, a, b1, n1, c1, b2, n2, c2, rfl⟩ | ⟨s, q, vk, hd, hl, he, -⟩ | ⟨l, v, hb, hl, he, -⟩⟩
    · exact ⟨a, b1, n1, c1, b2, n2, c2, rfl, g⟩
    · exact (hD.1 _ hd hl he).elim
    · exact (hD.2 _ hb hl he).elim))
  clear h hD
  go_enter Tryz.func37, Tryz.ntmps37
  go_wp2_with fail
  refine HR.out.mono ?_
  rintro e w1 ⟨a, b1, n1, c1, b2, n2, c2, rfl, g1⟩
  go_wp2_with fail
  exact bodyPost_ret (v := .tuple #[.slice none 0 0, .int .i64 6]) (by simp [results, Tryz.results37, go_sem]) rfl ⟨rfl, grown_trans g1 (grown_alloc (grown_refl _) _)⟩

/-- The blocks of the clocks of rows. -/
def clkBlks (rows : List (List Value)) : List Nat := rows.flatMap fun r => match r[7]? with | some v => v.ownBlock.toList | none => []

theorem clkBlks_mem {rows : List (List Value)} {j : Nat} {x : OpR} {vk : Value} (h : rows[j]? = some (opCells x vk)) {g : Nat} (hg : vk.ownBlock = some g) : g ∈ clkBlks rows := by
  unfold clkBlks
  exact List.mem_flatMap.2 ⟨_, List.mem_of_getElem? h, by show g ∈ vk.ownBlock.toList; rw [hg]; simp⟩

theorem clkBlks_of {rows : List (List Value)} {l : List OpR} {P : Value → Prop} (hl : rows.length = l.length) (h : ∀ (j : Nat) (x : OpR), l[j]? = some x → ∃ vk, rows[j]? = some (opCells x vk) ∧ P vk) {g : Nat} (hg : g ∈ clkBlks rows) : ∃ vk, P vk ∧ vk.ownBlock = some g := by
  obtain ⟨r, hr, hm⟩ := List.mem_flatMap.1 hg
  obtain ⟨j, hj⟩ := List.mem_iff_getElem?.1 hr
  have hlt := (List.getElem?_eq_some_iff.1 hj).1
  rw [hl] at hlt
  obtain ⟨vk, h1, h2⟩ := h j l[j] (by simp [hlt])
  rw [hj] at h1
  cases h1
  exact ⟨vk, h2, by simpa [opCells] using hm⟩

theorem LogAt.more {n : Nat} {ks K : List Nat} {log : List (List Value)} {ops : List OpR} {w : World} (h : LogAt n ks log ops w) (hK : ∀ k ∈ K, ∃ c, w.heap[k]? = some (.cells c 3)) : LogAt n (ks ++ K) log ops w :=
  ⟨h.len, fun j x hj => by obtain ⟨vk, h1, h2, h3⟩ := h.row j x hj; exact ⟨vk, h1, h2, fun g hg => List.mem_append_left _ (h3 g hg)⟩, fun k hk => by
    rcases List.mem_append.1 hk with hk | hk
    · exact h.blk k hk
    · exact hK k hk⟩

/-- What comes of a batch, by the document. -/
def BatR (yb : Nat) (S' : CS) (vc vl vw vL : Value) (ks : List Nat) (w : World) (e : Ending) (w' : World) : Prop :=
  e = .returned (.tuple #[.slice none 0 0, .int .i64 0]) ∧ ∃ vl' vw' vL' log' wr' K, RB yb S' vc vl' vw' vL' log' wr' (ks ++ K) w' ∧ Fr (refOwn yb vc vl vw vL) w w' ∧ OwnFrom (refOwn yb vc vl vw vL) (refOwn yb vc vl' vw' vL') w.heap.size ∧ ∀ k ∈ K, w.heap.size ≤ k

set_option maxRecDepth 100000 in
set_option maxHeartbeats 8000000 in
theorem ref_handBat (yb : Nat) (S : CS) (hI : Inv S) (vc vl vw vL : Value) (log wr0 : List (List Value)) (ks : List Nat) (l : List OpR) (hl : bOk S.n l) (w : World) (h : RB yb S vc vl vw vL log wr0 ks w) (h120 : (sealB (66 :: bEnc S.n l)).length ≤ 120) :
    Calls Tryz.prog 37 #[.pointer (some ⟨yb, 0, none⟩), str (sealB (66 :: bEnc S.n l))] w fun e w' => BatR yb (takesAll S l) vc vl vw vL ks w e w' := by
  have hG := hI.good
  have h8 := hG.n8
  have h1 : 1 ≤ S.n := Nat.le_trans hG.s1 hG.sn
  have hll := hl.1
  have c0 : w.cell? ⟨yb, 0, none⟩ = some (.int .i64 S.n) := cell_blk h.rf.cp 0
  have HR : Hid (Calls Tryz.prog 69 #[str (sealB (66 :: bEnc S.n l)), .int .i64 S.n] w fun e w' => ∃ vo, e = .returned (.tuple #[.agg #[.int .i64 0, .slice none 0 0, vo], .bool true]) ∧ OpsNew S.n vo l w.heap.size w' ∧ w.grownBy w' none) := hide ((readR8 S.n h1 h8 _ w).mono (by
    rintro e w' ⟨g, ⟨fv, -, hn, -⟩ | ⟨s, q, vk, hd, -, he, -⟩ | ⟨l', vo, hb, -, he, ho, rfl⟩⟩
    · exact (hn.2 _ hl h120 rfl).elim
    · exact (dig_bat he.symm).elim
    · rw [← bat_one h8 hl hb he] at ho
      exact ⟨vo, rfl, ho, g⟩))
  generalize sealB (66 :: bEnc S.n l) = D at HR ⊢
  clear h120
  go_enter Tryz.func37, Tryz.ntmps37
  go_wp2_with fail
  refine HR.out.mono ?_
  rintro e w1 ⟨vo, rfl, ⟨rows, hvo, hrl, hvb, hrow⟩, g1⟩
  obtain ⟨ao, co, rfl, -⟩ := hvo.value
  rw [hrl] at hvo hvb ⊢
  have hKb : ∀ k ∈ clkBlks rows, (∃ c, w1.heap[k]? = some (.cells c 3)) ∧ w.heap.size ≤ k := fun k hk => by
    obtain ⟨vk, ⟨h2, h3⟩, hg⟩ := clkBlks_of (P := fun vk => (∃ x : OpR, RowAt 3 1 vk (intRow (clk S.n x.q)) w1) ∧ ∀ g, vk.ownBlock = some g → w.heap.size ≤ g) hrl (fun j x hj => by obtain ⟨vk, h1, h2, h3⟩ := hrow j x hj; exact ⟨vk, h1, ⟨x, h2⟩, h3⟩) hk
    obtain ⟨x, h2⟩ := h2
    exact ⟨h2.blk hg, h3 k hg⟩
  have hW1 : WtRows S.n (ks ++ clkBlks rows) rows l w1 := ⟨hrl, fun j x hj => by
    obtain ⟨vk, h1, h2, h3⟩ := hrow j x hj
    exact ⟨vk, h1, by rw [ckRowQ_int]; exact h2, fun g hg => List.mem_append_right _ (clkBlks_mem h1 hg)⟩⟩
  have hg1 := h.grown g1
  have hB1 : RB yb S vc vl vw vL log wr0 (ks ++ clkBlks rows) w1 := ⟨hg1.rf, hg1.lg.more (fun k hk => (hKb k hk).1), hg1.wl.mono (fun k hk => List.mem_append_left _ hk), fun k hk q => by
    rcases List.mem_append.1 hk with hk | hk
    · exact h.kd k hk q
    · have := (hKb k hk).2
      have := h.rf.ck.lt q
      omega⟩
  have HK := hide (fun k hk => (hKb k hk).2 : ∀ k ∈ clkBlks rows, w.heap.size ≤ k)
  generalize clkBlks rows = K at hW1 hB1 HK
  have hold := hide (fun k hk => h.rf.lt k hk : ∀ k ∈ refOwn yb vc vl vw vL, k < w.heap.size)
  clear hKb hg1 hrow h HR c0
  go_upto_region 6 with fail
  have g2 : w1.grownBy (w1.alloc (.cells #[.int .i64 0, .slice none 0 0, .slice ao l.length co] 84)) none := grown_alloc (grown_refl _) _
  have k2 : (w1.alloc (.cells #[.int .i64 0, .slice none 0 0, .slice ao l.length co] 84)).heap[w1.heap.size]? = some (.cells #[.int .i64 0, .slice none 0 0, .slice ao l.length co] 84) := by rw [heap_alloc_at]; simp
  generalize (w1.alloc (.cells #[.int .i64 0, .slice none 0 0, .slice ao l.length co] 84)) = w2 at g2 k2 ⊢
  have hv2 := hvo.grown g2
  have hB2 := hB1.grown g2
  have hW2 : WtRows S.n (ks ++ K) rows l w2 := hW1.kept (fun k hk => g2.block k (hB1.lg.lt k hk) (by simp))
  have hF2 : Fr (refOwn yb vc vl vw vL) w w2 := (Fr.refl _ w).grown (grown_trans g1 g2) (by simp)
  have hbf : w.heap.size ≤ w1.heap.size := g1.size
  have hbf2 : w1.heap.size < w2.heap.size := lt_of_heap k2
  have hvlt : ∀ g, (Value.slice ao l.length co).ownBlock = some g → g < w2.heap.size := fun g hg => hv2.lt hg
  generalize w1.heap.size = bf at k2 hbf hbf2 ⊢
  have HB2 := hide hB2
  have HW2 := hide hW2
  have HF2 := hide hF2
  clear g1 g2 hvo hB1 hW1 hB2 hW2 hF2
  have hsz2 : w.heap.size ≤ w2.heap.size := by omega
  go_wp2_with fail
  go_loopg [8] l.length (fun gk s8 wr => ∃ (i : Nat) (vl1 vw1 vL1 : Value) (log1 wr1 : List (List Value)), s8 = .int .i64 i ∧ i ≤ l.length ∧ gk = l.length - i ∧ wr.heap[bf]? = some (.cells #[.int .i64 0, .slice none 0 0, .slice ao l.length co] 84) ∧ RowAt 88 8 (.slice ao l.length co) rows wr ∧
    Hid (RB yb (takesAll S (l.take i)) vc vl1 vw1 vL1 log1 wr1 (ks ++ K) wr ∧ WtRows S.n (ks ++ K) rows l wr) ∧ Hid (Fr (refOwn yb vc vl vw vL) w wr ∧ w2.heap.size ≤ wr.heap.size ∧ OwnFrom (refOwn yb vc vl vw vL) (refOwn yb vc vl1 vw1 vL1) w2.heap.size))
  case atStart => exact ⟨0, vl, vw, vL, log, wr0, rfl, by omega, rfl, k2, hv2, hide ⟨HB2.out, HW2.out⟩, hide ⟨HF2.out, Nat.le_refl _, fun k hk => .inl hk⟩⟩
  case round =>
    clear HB2 HW2 HF2 k2 hv2
    obtain ⟨i, vl1, vw1, vL1, log1, wr1, rfl, hil, hgk, kr, hvr, HX, HF⟩ := hrel
    have f2 : wr.cell? ⟨bf, 2, none⟩ = some (.slice ao l.length co) := cell_blk kr 2
    by_cases hlt : i < l.length
    · have hli : (i : Int) < (l.length : Int) := by omega
      obtain ⟨y, hy⟩ : ∃ y, l[i]? = some y := ⟨l[i], by simp [hlt]⟩
      obtain ⟨vk, hk1, hk2, hk3⟩ := HX.out.2.row i y hy
      obtain ⟨va, vp, rfl, -⟩ := hk2.value
      have ekl : (ckRowQ S.n y.q).length = S.n := by simp [ckRowQ]
      rw [ekl] at hk1 hk2 hk3
      obtain ⟨gv, cv', cur, hv', -, hb, hc⟩ := hvr.cell (i := i) hk1
      rw [hrl] at hv'
      cases hv'
      have r0 : wr.cell? ⟨gv, i * 8, none⟩ = some (.int .i64 y.o) := (cell_blk hb _).trans (hc 0 _ rfl)
      have r1 : wr.cell? ⟨gv, i * 8 + 1, none⟩ = some (.int .i64 y.num) := (cell_blk hb _).trans (hc 1 _ rfl)
      have r2 : wr.cell? ⟨gv, i * 8 + 2, none⟩ = some (.int .i64 y.c) := (cell_blk hb _).trans (hc 2 _ rfl)
      have r3 : wr.cell? ⟨gv, i * 8 + 3, none⟩ = some (.int .i64 y.kind) := (cell_blk hb _).trans (hc 3 _ rfl)
      have r4 : wr.cell? ⟨gv, i * 8 + 4, none⟩ = some (.int .i64 y.tc) := (cell_blk hb _).trans (hc 4 _ rfl)
      have r5 : wr.cell? ⟨gv, i * 8 + 5, none⟩ = some (.int .i64 y.tk) := (cell_blk hb _).trans (hc 5 _ rfl)
      have r6 : wr.cell? ⟨gv, i * 8 + 6, none⟩ = some (.int .i64 y.r) := (cell_blk hb _).trans (hc 6 _ rfl)
      have r7 : wr.cell? ⟨gv, i * 8 + 7, none⟩ = some (.slice va S.n vp) := (cell_blk hb _).trans (hc 7 _ rfl)
      have eN := (takesAll_n S (l.take i)).1
      have HI := inv_takesAll (l.take i) hI (fun z hz => hl.2 z (List.mem_of_mem_take hz))
      have HT0 := ref_takes yb (takesAll S (l.take i)) HI vc vl1 vw1 vL1 log1 wr1 (ks ++ K) y (by rw [eN]; exact hl.2 y (List.mem_of_getElem? hy)) va vp wr HX.out.1 (by rw [eN]; exact hk2) (by rw [eN]; exact hk3)
      rw [eN] at HT0
      have HT := hide HT0
      have HE := hide (takesAll_take S l i hy)
      clear hb hc hk1 hk2 hk3 HI HT0 hy eN
      go_wp2_with fail
      refine HT.out.mono ?_
      rintro e w4 ⟨rfl, vl2, vw2, vL2, log2, wr2, hB4, hF4, hO4⟩
      have hsep : ∀ k, w.heap.size ≤ k → k < w2.heap.size → k ∉ refOwn yb vc vl1 vw1 vL1 := fun k h1 h2 q => by
        rcases HF.out.2.2 k q with z | z
        · have := hold.out k z; omega
        · omega
      have kr4 := hF4.blk kr (hsep bf hbf hbf2)
      have hv4 : RowAt 88 8 (.slice (some ⟨gv, 0, none⟩) l.length co) rows w4 := hvr.kept (fun g hg => hF4.block g (hvr.lt hg) (hsep g (hvb g hg) (hvlt g hg)))
      have hW4 : WtRows S.n (ks ++ K) rows l w4 := HX.out.2.kept (HX.out.1.ksBlk hF4)
      have hO5 : OwnFrom (refOwn yb vc vl vw vL) (refOwn yb vc vl2 vw2 vL2) w2.heap.size := HF.out.2.2.trans hO4 HF.out.2.1
      have hF5 : Fr (refOwn yb vc vl vw vL) w w4 := HF.out.1.own (HF.out.2.2.mono hsz2) hF4
      have hs5 : w2.heap.size ≤ w4.heap.size := Nat.le_trans HF.out.2.1 hF4.size
      clear r0 r1 r2 r3 r4 r5 r6 r7
      go_wp2_with fail
      go_roundg (l.length - (i + 1))
      case measure => omega
      case rel => exact ⟨i + 1, vl2, vw2, vL2, log2, wr2, by go_num, by omega, rfl, kr4, hv4, hide ⟨by rw [HE.out]; exact hB4, hW4⟩, hide ⟨hF5, hs5, hO5⟩⟩
    · have e : l.take i = l := List.take_of_length_le (by omega)
      have HB : Hid (RB yb (takesAll S l) vc vl1 vw1 vL1 log1 wr1 (ks ++ K) wr) := hide (by have := HX.out.1; rwa [e] at this)
      go_wp2_with fail
      exact bodyPost_ret (v := .tuple #[.slice none 0 0, .int .i64 0]) (by simp [results, Tryz.results37, go_sem]) rfl ⟨rfl, vl1, vw1, vL1, log1, wr1, K, HB.out, HF.out.1, HF.out.2.2.mono hsz2, HK.out⟩

end Go.Proofs.YtachmkhbbbmioaaGreat
