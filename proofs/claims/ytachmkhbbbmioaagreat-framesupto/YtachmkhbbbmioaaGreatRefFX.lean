import Derived.Test.YtachmkhbbbmioaaGreatRefEX
import Derived.Deep.RegionLaw
import Derived.Deep.CutBlock
import Derived.Test.YtachmkhbbbmioaaGreatRefVX
namespace Go.Proofs.YtachmkhbbbmioaaGreat
open Go.RowKit Go.Shelf
attribute [local go_sem ↓] Go.wp_at_zero Go.wp_at_succ

theorem infoOp : (Tryz.prog.info? 88).map (fun i => (i.zero, i.size, i.bytes)) = some (some (.agg #[.int .i64 0, .int .i64 0, .int .i64 0, .int .i64 0, .int .i64 0, .int .i64 0, .int .i64 0, .slice none 0 0]), 8, 80) := by kernel_rfl

theorem grown_pre {w3 w5 : World} {o : Obj} {row : Option Nat} (h : (w3.alloc o).drew.grownBy w5 row) : w3.grownBy w5 row :=
  ⟨h.os, h.tape, h.output, by have := h.size; simp [heap_drew] at this; omega, fun k hk e => (h.block k (by simp [heap_drew]; omega) e).trans (Below.heap_alloc _ _ _ hk)⟩

/-- The log has grown by one. -/
theorem RefAt.grewLog {yb : Nat} {S : CS} {vc vl vw vL : Value} {log wt : List (List Value)} {w3 w5 : World} {gg cap : Nat} {x8 : List Value} (h : RefAt yb S vc vl vw vL log wt w3) (hx : x8.length = 8)
    (hown : w5.ownsRow 0 88 8 (.slice (some ⟨gg, 0, none⟩) (log.length + 1) cap) (log.length + 1) (log.flatten ++ x8)) (hg : w3.grownBy w5 vl.ownBlock) (hat : vl.ownBlock = some gg ∨ w3.heap.size ≤ gg) :
    RefAt yb S vc (.slice (some ⟨gg, 0, none⟩) (log.length + 1) cap) vw vL (log ++ [x8]) wt (w5.setCell ⟨yb, 4, none⟩ (.slice (some ⟨gg, 0, none⟩) (log.length + 1) cap)) := by
  have e : ∀ k, k < w3.heap.size → vl.ownBlock ≠ some k → w5.heap[k]? = w3.heap[k]? := fun k hk hn => hg.block k hk (Ne.symm hn)
  have hl : RowAt 88 8 (.slice (some ⟨gg, 0, none⟩) (log.length + 1) cap) (log ++ [x8]) w5 := by
    refine ⟨?_, fun y hy => ?_⟩
    · simpa using hown
    · rcases List.mem_append.1 hy with hy | hy
      · exact h.lg.2 y hy
      · simp at hy; rw [hy]; exact hx
  have hc := (e yb (lt_of_heap h.cp) (h.lg.neBlk h.cp (by decide))).trans h.cp
  have h1 := h.ck.kept (w' := w5) (fun g hg => e g (h.ck.lt hg) (h.ck.ne h.lg (by decide) hg))
  have h3 := h.wt.kept (w' := w5) (fun g hg => e g (h.wt.lt hg) (fun q => h.ap g q hg))
  have h4 := h.ln.kept (w' := w5) (fun g hg => e g (h.ln.lt hg) (h.ln.ne h.lg (by decide) hg))
  have e' : ∀ k, k ≠ yb → (w5.setCell ⟨yb, 4, none⟩ (.slice (some ⟨gg, 0, none⟩) (log.length + 1) cap)).heap[k]? = w5.heap[k]? := fun k hk => Below.heap_setCell _ _ _ _ hk
  refine ⟨(set_blk hc).trans rfl, h1.kept (fun g hg => e' g (fun q => h1.neBlk hc (by decide) (q ▸ hg))), hl.kept (fun g hg => e' g (fun q => hl.neBlk hc (by decide) (q ▸ hg))), h3.kept (fun g hg => e' g (fun q => h3.neBlk hc (by decide) (q ▸ hg))),
    h4.kept (fun g hg => e' g (fun q => h4.neBlk hc (by decide) (q ▸ hg))), fun g hg q => ?_⟩
  cases hg
  rcases hat with hat | hat
  · exact h.ap _ hat q
  · have : gg < w3.heap.size := h.wt.lt q
    omega

set_option maxRecDepth 100000 in
set_option maxHeartbeats 4000000 in
theorem ref_apply (yb : Nat) (S : CS) (vc vl vw vL : Value) (log wt : List (List Value)) (o : Nat) (num c kind tc tk rr : Int) (va : Option Addr) (vn vp : Nat) (w : World) (h : RefAt yb S vc vl vw vL log wt w) (ho1 : 1 ≤ o) (hon : o ≤ S.n) (h8 : S.n ≤ 8)
    (hcl : 0 ≤ S.cl (o - 1) ∧ S.cl (o - 1) ≤ 1000000) (hlen : S.L.length ≤ 100000) (hlog : log.length ≤ 100000) (L' : List El)
    (hcase : (kind = 1 ∧ ∃ A x R, S.L = A ++ x :: R ∧ findI tc tk S.L 0 = (A.length : Int) ∧ L' = A ++ gone x :: R) ∨
      (kind = 0 ∧ ∃ (A R : List El) (e : El), S.L = A ++ R ∧ findI tc tk S.L 0 = (A.length : Int) - 1 ∧ e.c = c ∧ e.k = (o : Int) ∧ e.r = rr ∧ e.d = false ∧ L' = A ++ behind e R)) :
    Calls Tryz.prog 102 #[.pointer (some ⟨yb, 0, none⟩), .agg #[.int .i64 o, .int .i64 num, .int .i64 c, .int .i64 kind, .int .i64 tc, .int .i64 tk, .int .i64 rr, .slice va vn vp]] w fun e w' => e = .returned (.tuple #[]) ∧
      ∃ vl' vL', RefAt yb { S with cl := bump S.cl (o - 1), g := max S.g c, L := L' } vc vl' vw vL' (log ++ [[.int .i64 o, .int .i64 num, .int .i64 c, .int .i64 kind, .int .i64 tc, .int .i64 tk, .int .i64 rr, .slice va vn vp]]) wt w' ∧
        Fr (refOwn yb vc vl vw vL) w w' ∧ (∀ g, vl'.ownBlock = some g → vl.ownBlock = some g ∨ w.heap.size ≤ g) ∧ (∀ g, vL'.ownBlock = some g → vL.ownBlock = some g ∨ w.heap.size ≤ g) := by
  obtain ⟨q, rfl⟩ : ∃ q : Nat, o = q + 1 := ⟨o - 1, by omega⟩
  simp only [Nat.add_sub_cancel] at hcl ⊢
  have eo : ((q + 1 : Nat) : Int) = (q : Int) + 1 := by omega
  rw [eo] at hcase ⊢
  obtain ⟨g, cap, cur, rfl, hcap, -, -⟩ := h.clock (i := q) (by omega)
  have hlt := h.lt
  have g1 := grown_alloc (grown_refl w) (.cells #[.int .i64 ((q : Int) + 1), .int .i64 num, .int .i64 c, .int .i64 kind, .int .i64 tc, .int .i64 tk, .int .i64 rr, .slice va vn vp] 88)
  have k1 : (w.alloc (.cells #[.int .i64 ((q : Int) + 1), .int .i64 num, .int .i64 c, .int .i64 kind, .int .i64 tc, .int .i64 tk, .int .i64 rr, .slice va vn vp] 88)).heap[w.heap.size]? = some (.cells #[.int .i64 ((q : Int) + 1), .int .i64 num, .int .i64 c, .int .i64 kind, .int .i64 tc, .int .i64 tk, .int .i64 rr, .slice va vn vp] 88) := by rw [heap_alloc_at]; simp
  have hF1 : Fr (refOwn yb (.slice (some ⟨g, 0, none⟩) S.n cap) vl vw vL) w (w.alloc (.cells #[.int .i64 ((q : Int) + 1), .int .i64 num, .int .i64 c, .int .i64 kind, .int .i64 tc, .int .i64 tk, .int .i64 rr, .slice va vn vp] 88)) := (Fr.refl _ w).alloc _
  go_enter Tryz.func102, Tryz.ntmps102
  go_wp2_with fail
  generalize (w.alloc (.cells #[.int .i64 ((q : Int) + 1), .int .i64 num, .int .i64 c, .int .i64 kind, .int .i64 tc, .int .i64 tk, .int .i64 rr, .slice va vn vp] 88)) = w1 at g1 k1 hF1 ⊢
  have hr1 := h.grown g1
  have hyb : yb < w.heap.size := lt_of_heap h.cp
  have hgb : g < w.heap.size := h.ck.lt rfl
  have nyg : yb ≠ g := fun q => h.ck.neBlk h.cp (by decide) (q ▸ rfl)
  -- the clock
  obtain ⟨g', cap', cur, hv, -, hb1, hc1⟩ := hr1.clock (i := q) (by omega)
  simp only [Value.slice.injEq, Option.some.injEq, Addr.mk.injEq, and_true, true_and] at hv
  obtain ⟨rfl, rfl⟩ := hv
  have c0 : w1.cell? ⟨w.heap.size, 0, none⟩ = some (.int .i64 ((q : Int) + 1)) := cell_blk k1 0
  have c2 : w1.cell? ⟨yb, 2, none⟩ = some (.slice (some ⟨g, 0, none⟩) S.n cap) := cell_blk hr1.cp 2
  have c4 : w1.cell? ⟨g, q, none⟩ = some (.int .i64 (S.cl q)) := (cell_blk hb1 _).trans hc1
  have f4 : w1.frozen? ⟨g, q, none⟩ = false := frozen_blk hb1 q
  have hq0 : (0 : Int) ≤ (q : Int) := by omega
  have hqi : (q : Int) < (S.n : Int) := by omega
  have hw1 : IntKind.i64.wrap ((q : Int) + 1 - 1) = (q : Int) := by rw [IntKind.wrap_i64]; omega
  have hw3 : IntKind.i64.wrap (S.cl q + 1) = S.cl q + 1 := by rw [IntKind.wrap_i64]; omega
  go_region
  go_wp2_with fail
  have hF2 : Fr (refOwn yb (.slice (some ⟨g, 0, none⟩) S.n cap) vl vw vL) w (w1.setCell ⟨g, q, none⟩ (.int .i64 (S.cl q + 1))).drew := (hF1.setCell (p := ⟨g, q, none⟩) (.inl (by simp [refOwn, Value.ownBlock])) _).drew
  have hr2 : RefAt yb { S with cl := bump S.cl q } (.slice (some ⟨g, 0, none⟩) S.n cap) vl vw vL log wt (w1.setCell ⟨g, q, none⟩ (.int .i64 (S.cl q + 1))).drew := (hr1.bumped (by omega)).kept (fun _ _ => rfl)
  have k2 : (w1.setCell ⟨g, q, none⟩ (.int .i64 (S.cl q + 1))).drew.heap[w.heap.size]? = some (.cells #[.int .i64 ((q : Int) + 1), .int .i64 num, .int .i64 c, .int .i64 kind, .int .i64 tc, .int .i64 tk, .int .i64 rr, .slice va vn vp] 88) := by
    rw [heap_drew, Below.heap_setCell _ _ _ _ (by simp; omega)]; exact k1
  generalize (w1.setCell ⟨g, q, none⟩ (.int .i64 (S.cl q + 1))).drew = w2 at hF2 hr2 k2 ⊢
  clear c0 c2 c4 f4 hq0 hw1 hw3 hr1 k1 hF1 g1 hb1 hc1
  -- the greatest counter
  have c2 : w2.cell? ⟨w.heap.size, 2, none⟩ = some (.int .i64 c) := cell_blk k2 2
  have c3 : w2.cell? ⟨yb, 3, none⟩ = some (.int .i64 S.g) := cell_blk hr2.cp 3
  have f3 : w2.frozen? ⟨yb, 3, none⟩ = false := frozen_blk hr2.cp 3
  have hmx : ∀ w, (Builtin.max_ #[3, 3] 3 #[.int .i64 S.g, .int .i64 c]).run Tryz.prog w = .ok (.int .i64 (max S.g c)) w := fun w => by
    rw [run_max_int2]
    have : (if c > S.g then c else S.g) = max S.g c := by split <;> omega
    rw [this]
  go_region
  go_wp2_with fail
  have hF3 : Fr (refOwn yb (.slice (some ⟨g, 0, none⟩) S.n cap) vl vw vL) w (w2.setCell ⟨yb, 3, none⟩ (.int .i64 (max S.g c))).drew := (hF2.setCell (p := ⟨yb, 3, none⟩) (.inl (by simp [refOwn])) _).drew
  have hr3 : RefAt yb { S with cl := bump S.cl q, g := max S.g c } (.slice (some ⟨g, 0, none⟩) S.n cap) vl vw vL log wt (w2.setCell ⟨yb, 3, none⟩ (.int .i64 (max S.g c))).drew := (hr2.most (max S.g c)).kept (fun _ _ => rfl)
  have k3 : (w2.setCell ⟨yb, 3, none⟩ (.int .i64 (max S.g c))).drew.heap[w.heap.size]? = some (.cells #[.int .i64 ((q : Int) + 1), .int .i64 num, .int .i64 c, .int .i64 kind, .int .i64 tc, .int .i64 tk, .int .i64 rr, .slice va vn vp] 88) := by
    rw [heap_drew, Below.heap_setCell _ _ _ _ (by simp; omega)]; exact k2
  generalize (w2.setCell ⟨yb, 3, none⟩ (.int .i64 (max S.g c))).drew = w3 at hF3 hr3 k3 ⊢
  clear c2 c3 f3 hmx hr2 k2 hF2
  -- the log
  obtain ⟨i0, hi0, hz0, hz1, hz2⟩ := info_parts infoOp
  have c4 : w3.cell? ⟨yb, 4, none⟩ = some vl := cell_blk hr3.cp 4
  have d0 : w3.cell? ⟨w.heap.size, 0, none⟩ = some (.int .i64 ((q : Int) + 1)) := cell_blk k3 0
  have d1 : w3.cell? ⟨w.heap.size, 1, none⟩ = some (.int .i64 num) := cell_blk k3 1
  have d2 : w3.cell? ⟨w.heap.size, 2, none⟩ = some (.int .i64 c) := cell_blk k3 2
  have d3 : w3.cell? ⟨w.heap.size, 3, none⟩ = some (.int .i64 kind) := cell_blk k3 3
  have d4 : w3.cell? ⟨w.heap.size, 4, none⟩ = some (.int .i64 tc) := cell_blk k3 4
  have d5 : w3.cell? ⟨w.heap.size, 5, none⟩ = some (.int .i64 tk) := cell_blk k3 5
  have d6 : w3.cell? ⟨w.heap.size, 6, none⟩ = some (.int .i64 rr) := cell_blk k3 6
  have d7 : w3.cell? ⟨w.heap.size, 7, none⟩ = some (.slice va vn vp) := cell_blk k3 7
  have ny3 : vl.ownBlock ≠ some yb := hr3.lg.neBlk hr3.cp (by decide)
  have hyb3 : yb < w3.heap.size := lt_of_heap hr3.cp
  have hs3 : w.heap.size ≤ w3.heap.size := hF3.size
  go_cut [29] (fun _ wx => ∃ vl', RefAt yb { S with cl := bump S.cl q, g := max S.g c } (.slice (some ⟨g, 0, none⟩) S.n cap) vl' vw vL (log ++ [[.int .i64 ((q : Int) + 1), .int .i64 num, .int .i64 c, .int .i64 kind, .int .i64 tc, .int .i64 tk, .int .i64 rr, .slice va vn vp]]) wt wx ∧ wx.heap[w.heap.size]? = some (.cells #[.int .i64 ((q : Int) + 1), .int .i64 num, .int .i64 c, .int .i64 kind, .int .i64 tc, .int .i64 tk, .int .i64 rr, .slice va vn vp] 88) ∧ Fr (refOwn yb (.slice (some ⟨g, 0, none⟩) S.n cap) vl vw vL) w wx ∧ (∀ g, vl'.ownBlock = some g → vl.ownBlock = some g ∨ w.heap.size ≤ g))
  case first =>
    go_region_law ((refine step_append_lies _ (by rfl) _ _ _ (by rfl) 0 88 i0 _ 8 80 Tryz.underlying41 hi0 hz0 hz1 hz2 rfl (by omega) vl log.length log.flatten (by rfl) ((hr3.lg.1.alloc _).drew) ⟨w3.heap.size, 0, none⟩ 1 1 [.int .i64 ((q : Int) + 1), .int .i64 num, .int .i64 c, .int .i64 kind, .int .i64 tc, .int .i64 tk, .int .i64 rr, .slice va vn vp] (by rfl) (by rfl) (World.news_of_block (cs := #[.int .i64 ((q : Int) + 1), .int .i64 num, .int .i64 c, .int .i64 kind, .int .i64 tc, .int .i64 tk, .int .i64 rr, .slice va vn vp]) (t := 88) (fr := (0, 0)) (heap_alloc_new w3 _)) (by simp [Value.oneCell']) (by omega) (by unfold maxLen; omega) (by omega) (by simp) (w3.heap.size + 1) (by simp) ?_; intro gg capL w5 hown1 hgrow hat hlt5; have y5 : w5.heap[yb]? = w3.heap[yb]? := (hgrow.block yb (by simp; omega) (Ne.symm ny3)).trans (Below.heap_alloc _ _ _ hyb3); have y4 : w5.cell? ⟨yb, 4, none⟩ = some vl := (World.cell?_of_block (a := ⟨yb, 4, none⟩) y5).trans c4; have f4 : w5.frozen? ⟨yb, 4, none⟩ = false := (World.frozen?_of_block (a := ⟨yb, 4, none⟩) y5).trans (frozen_blk hr3.cp 4)))
    all_goals (go_wp2_with fail; go_meet)
    all_goals go_light
    all_goals
      have hgr : w3.grownBy w5 vl.ownBlock := grown_pre hgrow
      have hat' : vl.ownBlock = some gg ∨ w3.heap.size ≤ gg := hat.imp id (fun q => by omega)
      have hv5 : w5.heap[w.heap.size]? = some (.cells #[.int .i64 ((q : Int) + 1), .int .i64 num, .int .i64 c, .int .i64 kind, .int .i64 tc, .int .i64 tk, .int .i64 rr, .slice va vn vp] 88) := (hgr.block _ (lt_of_heap k3) (fun q => by have := hlt w.heap.size (by simp [refOwn, ← q]); omega)).trans k3
      refine ⟨_, (hr3.grewLog (x8 := [.int .i64 ((q : Int) + 1), .int .i64 num, .int .i64 c, .int .i64 kind, .int .i64 tc, .int .i64 tk, .int .i64 rr, .slice va vn vp]) rfl hown1 hgr hat').kept (fun _ _ => rfl), ?_, ?_, ?_⟩
      · exact (Below.heap_setCell _ _ _ _ (by simp; omega)).trans hv5
      · exact ((hF3.grown hgr (fun k hk => .inl (by simp [refOwn, hk]))).setCell (p := ⟨yb, 4, none⟩) (.inl (by simp [refOwn])) _)
      · intro b hb
        simp only [Value.ownBlock, Option.some.injEq] at hb
        subst hb
        rcases hat with hat | hat
        · exact .inl hat
        · right; have := hF3.size; omega
  case rest =>
  obtain ⟨vl', hr4, k4, hF4, hvl⟩ := hcut
  clear hr3 k3 hF3 c4 d0 d1 d2 d3 d4 d5 d6 d7 ny3 hyb3 hs3
  -- where the target stands
  have e3 : wc.cell? ⟨w.heap.size, 3, none⟩ = some (.int .i64 kind) := cell_blk k4 3
  have e4 : wc.cell? ⟨w.heap.size, 4, none⟩ = some (.int .i64 tc) := cell_blk k4 4
  have e5 : wc.cell? ⟨w.heap.size, 5, none⟩ = some (.int .i64 tk) := cell_blk k4 5
  have hAt := ref_at yb _ _ vl' vw vL _ wt tc tk wc hr4 (by show S.L.length ≤ 1000000; omega)
  go_wp2_with fail
  refine hAt.mono ?_
  rintro e w6 ⟨rfl, hg6⟩
  have hr6 := hr4.grown hg6
  have hF6 := hF4.grown hg6 (by simp)
  have k6 := (hg6.block _ (lt_of_heap k4) (by simp)).trans k4
  clear hr4 hg6 k4 hF4 e3 e4 e5 hAt
  have e0 : w6.cell? ⟨w.heap.size, 0, none⟩ = some (.int .i64 ((q : Int) + 1)) := cell_blk k6 0
  have e2 : w6.cell? ⟨w.heap.size, 2, none⟩ = some (.int .i64 c) := cell_blk k6 2
  have e3 : w6.cell? ⟨w.heap.size, 3, none⟩ = some (.int .i64 kind) := cell_blk k6 3
  have hys6 : w.heap.size ≤ w6.heap.size := hF6.size
  rcases hcase with ⟨rfl, A, x, R, hL, hfi, rfl⟩ | ⟨rfl, A, R, e, hL, hfi, ec, ek, er, ed, rfl⟩
  · rw [show findI tc tk ({ S with cl := bump S.cl q, g := max S.g c } : CS).L 0 = (A.length : Int) from hfi]
    obtain ⟨gL, capL, cur, hvL, hcapL, hbL, hcL⟩ := hr6.ln.cell (i := A.length) (x := elCells x) (by show (S.L.map elCells)[A.length]? = _; rw [hL]; simp)
    have hlL : (({ S with cl := bump S.cl q, g := max S.g c } : CS).L.map elCells).length = S.L.length := by simp
    rw [hlL] at hvL hcapL
    subst hvL
    have hAl : (A.length : Int) < (S.L.length : Int) := by rw [hL]; simp; omega
    have c6 : w6.cell? ⟨yb, 6, none⟩ = some (.slice (some ⟨gL, 0, none⟩) S.L.length capL) := cell_blk hr6.cp 6
    have f6 : w6.frozen? ⟨gL, A.length * 4 + 3, none⟩ = false := frozen_blk hbL _
    have d6 : w6.cell? ⟨gL, A.length * 4 + 3, none⟩ = some (.bool x.d) := (cell_blk hbL _).trans (hcL 3 _ rfl)
    clear hfi hlL
    go_wp2_with fail
    refine bodyPost_ret (v := .tuple #[]) (by simp [results, Tryz.results102, go_sem]) rfl ⟨rfl, vl', _, hr6.struck hL, hF6.setCell (p := ⟨gL, A.length * 4 + 3, none⟩) (.inl (by simp [refOwn, Value.ownBlock])) _, hvl, fun g hg => .inl hg⟩
  · rw [show findI tc tk ({ S with cl := bump S.cl q, g := max S.g c } : CS).L 0 = (A.length : Int) - 1 from hfi]
    subst ec er
    have hAl : A.length ≤ S.L.length := by rw [hL]; simp
    have HL := hide hL
    clear hfi hL
    go_upto_block 0 with fail
    have g7 : w6.grownBy (w6.alloc (.cells #[.int .i64 e.c, .int .i64 ((q : Int) + 1)] 86)) none := grown_alloc (grown_refl _) _
    have b7 : (w6.alloc (.cells #[.int .i64 e.c, .int .i64 ((q : Int) + 1)] 86)).heap[w6.heap.size]? = some (.cells #[.int .i64 e.c, .int .i64 ((q : Int) + 1)] 86) := by rw [heap_alloc_at]; simp
    go_cut [6] (fun s6 wx => ∃ (m : Nat) (T R' : List El), R = T ++ R' ∧ behind e R = T ++ e :: R' ∧ s6 = .int .i64 ((m : Nat) : Int) ∧ m = A.length + T.length ∧ w6.grownBy wx none ∧ wx.heap[w6.heap.size]? = some (.cells #[.int .i64 e.c, .int .i64 ((q : Int) + 1)] 86))
    case first =>
      go_wp2_with fail
      go_loopg [6] R.length (fun g s6 wr => ∃ (m : Nat) (T R' : List El), R = T ++ R' ∧ behind e R = T ++ behind e R' ∧ s6 = .int .i64 ((m : Nat) : Int) ∧ m = A.length + T.length ∧ g = R'.length ∧ w6.grownBy wr none ∧ wr.heap[w6.heap.size]? = some (.cells #[.int .i64 e.c, .int .i64 ((q : Int) + 1)] 86))
      case atStart => exact ⟨A.length, [], R, rfl, rfl, rfl, by simp, rfl, g7, b7⟩
      case round =>
        obtain ⟨m, T, R', hTR, hbe, rfl, hm, hgk, hG, hb⟩ := hrel
        have hr := hr6.grown hG
        obtain ⟨aL, cL, hvL, hcL⟩ := hr.ln.value
        have hlL : (({ S with cl := bump S.cl q, g := max S.g e.c } : CS).L.map elCells).length = S.L.length := by simp
        rw [hlL] at hvL hcL
        have d6 : wr.cell? ⟨yb, 6, none⟩ = some vL := cell_blk hr.cp 6
        have e0 : wr.cell? ⟨w6.heap.size, 0, none⟩ = some (.int .i64 e.c) := cell_blk hb 0
        have e1 : wr.cell? ⟨w6.heap.size, 1, none⟩ = some (.int .i64 ((q : Int) + 1)) := cell_blk hb 1
        have hlS : S.L.length = A.length + (T.length + R'.length) := by rw [HL.out, hTR]; simp
        have gfin : ∀ n, w6.grownBy (wr.drewN n) none := fun n => hG.trans (grown_drewN _ _)
        cases R' with
        | nil =>
          subst hvL
          have hni : m = S.L.length := by rw [hlS, hm]; simp
          have HB := hide (⟨hTR, hbe, hm⟩ : R = T ++ [] ∧ behind e R = T ++ behind e [] ∧ m = A.length + T.length)
          clear hTR hbe hm hlS
          subst hni
          go_wp2_with fail
          go_quiet (fail)
          go_wp2_with fail
          go_meet
          exact ⟨_, T, [], HB.out.1, HB.out.2.1, rfl, HB.out.2.2, gfin _, hb⟩
        | cons y R' =>
          have hmS : (m : Int) < (S.L.length : Int) := by rw [hlS, hm]; simp; omega
          have hy : (S.L.map elCells)[m]? = some (elCells y) := by rw [HL.out, hTR, hm]; simp
          obtain ⟨gL, capL, cur, hv, -, hbl, hcell⟩ := hr.ln.cell (i := m) (x := elCells y) hy
          rw [hlL] at hv
          rw [hv] at hvL
          cases hvL
          have k0 : wr.cell? ⟨gL, m * 4, none⟩ = some (.int .i64 y.c) := (cell_blk hbl (m * 4)).trans (hcell 0 _ rfl)
          have k1 : wr.cell? ⟨gL, m * 4 + 1, none⟩ = some (.int .i64 y.k) := (cell_blk hbl (m * 4 + 1)).trans (hcell 1 _ rfl)
          rw [hv] at d6
          have hAb := fun w => aboveR y.c y.k e.c ((q : Int) + 1) w
          have hm0 : (0 : Int) ≤ (m : Int) := by omega
          have hm9 : m ≤ 1000000 := by omega
          have HB := hide (⟨hTR, hbe, hm⟩ : R = T ++ y :: R' ∧ behind e R = T ++ behind e (y :: R') ∧ m = A.length + T.length)
          clear hTR hbe hm hlS hy hcell
          by_cases hab : e.c < y.c ∨ (y.c = e.c ∧ (q : Int) + 1 < y.k)
          · simp only [hab, decide_true] at hAb
            have HA := hide hab
            clear hab
            go_wp2_with fail
            go_region_held3 (fun w' => w'.cell? ⟨yb, 6, none⟩ = some (.slice (some ⟨gL, 0, none⟩) S.L.length cL) ∧ w'.cell? ⟨gL, m * 4, none⟩ = some (.int .i64 y.c) ∧ w'.cell? ⟨gL, m * 4 + 1, none⟩ = some (.int .i64 y.k) ∧ w'.cell? ⟨w6.heap.size, 0, none⟩ = some (.int .i64 e.c) ∧ w'.cell? ⟨w6.heap.size, 1, none⟩ = some (.int .i64 ((q : Int) + 1)))
              (first | exact ⟨yk _ _ d6, yk _ _ k0, yk _ _ k1, yk _ _ e0, yk _ _ e1⟩ | go_keep)
              (first | (go_at_call 139; refine (hAb _).mono ?_; rintro e w8 ⟨rfl, hgl⟩; have yk : ∀ (a : Addr) (x : Value), wr.cell? a = some x → w8.cell? a = some x := (fun a x hx => (World.cell?_of_block (hgl.block _ (lt_cellW hx) (by simp))).trans hx)))
            go_wp2_with fail
            have hbx := (hgl.block _ (lt_of_heap hb) (by simp)).trans hb
            have hgx : w6.grownBy w8 none := grown_trans hG ⟨hgl.os, hgl.tape, hgl.output, hgl.size, hgl.block⟩
            go_roundg R'.length
            case measure => rw [hgk]; simp
            case rel => exact ⟨m + 1, T ++ [y], R', by rw [HB.out.1]; simp, by rw [HB.out.2.1, behind, if_pos (by show e.c < y.c ∨ (y.c = e.c ∧ e.k < y.k); rw [ek]; exact HA.out)]; simp, by go_num, by rw [HB.out.2.2]; simp; omega, rfl, hgx, hbx⟩
          · simp only [hab, decide_false] at hAb
            have HA := hide hab
            clear hab
            go_wp2_with fail
            go_region_held3 (fun w' => w'.cell? ⟨yb, 6, none⟩ = some (.slice (some ⟨gL, 0, none⟩) S.L.length cL) ∧ w'.cell? ⟨gL, m * 4, none⟩ = some (.int .i64 y.c) ∧ w'.cell? ⟨gL, m * 4 + 1, none⟩ = some (.int .i64 y.k) ∧ w'.cell? ⟨w6.heap.size, 0, none⟩ = some (.int .i64 e.c) ∧ w'.cell? ⟨w6.heap.size, 1, none⟩ = some (.int .i64 ((q : Int) + 1)))
              (first | exact ⟨yk _ _ d6, yk _ _ k0, yk _ _ k1, yk _ _ e0, yk _ _ e1⟩ | go_keep)
              (first | (go_at_call 139; refine (hAb _).mono ?_; rintro e w8 ⟨rfl, hgl⟩; have yk : ∀ (a : Addr) (x : Value), wr.cell? a = some x → w8.cell? a = some x := (fun a x hx => (World.cell?_of_block (hgl.block _ (lt_cellW hx) (by simp))).trans hx)))
            go_wp2_with fail
            have hbx := (hgl.block _ (lt_of_heap hb) (by simp)).trans hb
            have hgx : w6.grownBy w8 none := grown_trans hG ⟨hgl.os, hgl.tape, hgl.output, hgl.size, hgl.block⟩
            go_meet
            exact ⟨m, T, y :: R', HB.out.1, by rw [HB.out.2.1, behind, if_neg (by show ¬ (e.c < y.c ∨ (y.c = e.c ∧ e.k < y.k)); rw [ek]; exact HA.out)], rfl, HB.out.2.2, hgx, hbx⟩
    case rest =>
    obtain ⟨m, T, R', hTR, hbe, rfl, hm, hG, hb⟩ := hcut
    have hr7 := hr6.grown hG
    have hF7 := hF6.grown hG (by simp)
    have k7 := (hG.block _ (lt_of_heap k6) (by simp)).trans k6
    have hLL : (({ S with cl := bump S.cl q, g := max S.g e.c } : CS).L.map elCells) = S.L.map elCells := rfl
    have hlS : S.L = (A ++ T) ++ R' := by rw [HL.out, hTR]; simp
    have htk : S.L.take m = A ++ T := by rw [hlS, hm]; exact List.take_left' (by simp)
    have hdr : S.L.drop m = R' := by rw [hlS, hm]; exact List.drop_left' (by simp)
    have hmS : m ≤ S.L.length := by rw [hlS, hm]; simp
    have hs7 : w.heap.size ≤ wc.heap.size := hF7.size
    have hs67 : w6.heap.size ≤ wc.heap.size := hG.size
    have hL7 := hr7.ln
    rw [hLL] at hL7
    obtain ⟨u1, hs1, hsrc1⟩ := hL7.lo (t := 116) (by kernel_rfl) (fun w => by kernel_rfl) m (by simpa using hmS)
    obtain ⟨u2, hs2, hsrc2⟩ := hL7.hi (t := 116) (by kernel_rfl) (fun w => by kernel_rfl) m (by simpa using hmS)
    have hq1 := hsrc1 wc (fun _ _ => rfl)
    rw [← List.map_take, htk] at hq1
    have c6 : wc.cell? ⟨yb, 6, none⟩ = some vL := cell_blk hr7.cp 6
    have hnil := row_nil 130 4 wc
    have hAT : (A ++ T).length ≤ 100000 := by rw [← htk]; simp; omega
    have hR1 : R'.length ≤ 100000 := by rw [← hdr]; simp; omega
    have HH := hide (⟨hTR, hbe, hm, hlS, htk, hdr⟩ : R = T ++ R' ∧ behind e R = T ++ e :: R' ∧ m = A.length + T.length ∧ S.L = (A ++ T) ++ R' ∧ S.L.take m = A ++ T ∧ S.L.drop m = R')
    clear hTR hbe hm hlS htk hdr hsrc1 e0 e2 e3
    go_upto_region 13 with (at_builtin; refine wpList_row Tryz.underlying116 infoElem rfl (by decide) rfl _ _ rfl (.slice none 0 0) [] rfl hnil u1 _ rfl hq1 (el_len _) (el_one _) (by unfold maxLen; simp at hAT ⊢; omega) (by simp at hAT ⊢; omega) ?_; intro v1 w8 hR8 hg8 hat8)
    have hv1 : ∀ b, v1.ownBlock = some b → wc.heap.size ≤ b := by
      intro b hb
      rcases hat8 with q | q
      · rw [q] at hb; cases hb
      · rw [q] at hb; cases hb; exact Nat.le_refl _
    rw [List.nil_append] at hR8
    have hF8 := hF7.grown hg8 (by simp [Value.ownBlock])
    have K8 : ∀ k, k < wc.heap.size → w8.heap[k]? = wc.heap[k]? := fun k hk => hg8.block k hk (by simp [Value.ownBlock])
    have hs8 : wc.heap.size ≤ w8.heap.size := hg8.size
    have kb8 := (K8 _ (lt_of_heap hb)).trans hb
    have ko8 := (K8 _ (lt_of_heap k7)).trans k7
    have m0 : w8.cell? ⟨w6.heap.size, 0, none⟩ = some (.int .i64 e.c) := cell_blk kb8 0
    have m1 : w8.cell? ⟨w6.heap.size, 1, none⟩ = some (.int .i64 ((q : Int) + 1)) := cell_blk kb8 1
    have m6 : w8.cell? ⟨w.heap.size, 6, none⟩ = some (.int .i64 e.r) := cell_blk ko8 6
    have g8a : w8.grownBy (w8.alloc (.cells #[.int .i64 e.c, .int .i64 ((q : Int) + 1), .int .i64 e.r, .bool false] 130)) none := grown_alloc (grown_refl _) _
    have hS8 : SrcAt (w8.alloc (.cells #[.int .i64 e.c, .int .i64 ((q : Int) + 1), .int .i64 e.r, .bool false] 130)) (.slice (some ⟨w8.heap.size, 0, none⟩) 1 1) ([e].map elCells) := by
      have := src_new w8 (elCells e) 130
      unfold elCells at this
      rw [ek, ed] at this
      simpa [elCells, ek, ed] using this
    have hR8a := hR8.grown g8a
    have hF8a := hF8.grown g8a (by simp)
    clear hg8 hat8 hq1 hnil c6 hR8
    go_upto_region 14 with (at_builtin; refine wpList_row Tryz.underlying116 infoElem rfl (by decide) rfl _ _ rfl v1 _ rfl hR8a _ _ rfl hS8 (el_len _) (el_one _) (by unfold maxLen; simp at hAT ⊢; omega) (by simp at hAT ⊢; omega) ?_; intro v2 w9 hR9 hg9 hat9)
    have hv2 : ∀ b, v2.ownBlock = some b → wc.heap.size ≤ b := by
      intro b hb
      rcases hat9 with q | q
      · exact hv1 b (q ▸ hb)
      · rw [q] at hb; cases hb; simp only [World.size_alloc]; omega
    have K9 : ∀ k, k < wc.heap.size → w9.heap[k]? = wc.heap[k]? := fun k hk => by
      rw [hg9.block k (by simp only [World.size_alloc]; omega) (fun q => by have := hv1 k q.symm; omega), Below.heap_alloc _ _ _ (by omega)]
      exact K8 k hk
    have hF9 := hF8a.grown hg9 (fun k hk => .inr (by have := hv1 k hk; omega))
    have hr9 := hr7.kept (w' := w9) (fun k hk => K9 k (hr7.lt k hk))
    have c6 : w9.cell? ⟨yb, 6, none⟩ = some vL := cell_blk hr9.cp 6
    have hq2 := hsrc2 w9 (fun g hg => K9 g (hL7.lt hg))
    rw [← List.map_drop, HH.out.2.2.2.2.2] at hq2
    clear hg9 hat9 hS8 hR8a hF8a g8a m0 m1 m6 hs1
    have hs9 : wc.heap.size ≤ w9.heap.size := by
      by_cases q : wc.heap.size ≤ w9.heap.size
      · exact q
      · have hx := K9 w9.heap.size (by omega)
        rw [Array.getElem?_eq_none (Nat.le_refl _)] at hx
        rw [Array.getElem?_eq_getElem (by omega)] at hx
        cases hx
    have fin10 : ∀ (w10 : World), w9.grownBy w10 v2.ownBlock → (∀ k, k < wc.heap.size → w10.heap[k]? = wc.heap[k]?) ∧ w10.cell? ⟨yb, 6, none⟩ = some vL ∧ w10.frozen? ⟨yb, 6, none⟩ = false := by
      intro w10 hg10
      have K10 : ∀ k, k < wc.heap.size → w10.heap[k]? = wc.heap[k]? := fun k hk => (hg10.block k (by omega) (fun q => by have := hv2 k q.symm; omega)).trans (K9 k hk)
      have hy := (K10 yb (lt_of_heap hr7.cp)).trans hr7.cp
      exact ⟨K10, cell_blk hy 6, frozen_blk hy 6⟩
    have F10 := hide fin10
    clear fin10
    go_wp2_with (at_builtin; refine wpList_row Tryz.underlying116 infoElem rfl (by decide) rfl _ _ rfl v2 _ rfl hR9 u2 _ rfl hq2 (el_len _) (el_one _) (by unfold maxLen; simp at hAT ⊢; omega) (by simp at hAT ⊢; omega) ?_; intro v3 w10 hR10 hg10 hat10; obtain ⟨K10, y6, f6⟩ := F10.out w10 hg10; obtain ⟨a3, c3, hv3, -⟩ := hR10.value; generalize hn3 : (((A ++ T).map elCells ++ [e].map elCells) ++ R'.map elCells).length = n3 at hv3; clear hn3; subst hv3)
    go_end0
    have hF10 := hF9.grown hg10 (fun k hk => .inr (by have := hv2 k hk; omega))
    have hr10 := hr7.kept (w' := w10) (fun k hk => K10 k (hr7.lt k hk))
    have hfin : RowAt 130 4 (.slice a3 n3 c3) ((A ++ behind e R).map elCells) w10 := by
      rw [HH.out.2.1]
      simpa using hR10
    refine ⟨rfl, vl', .slice a3 n3 c3, hr10.lined hfin, hF10.setCell (p := ⟨yb, 6, none⟩) (.inl (by simp [refOwn])) _, hvl, fun b hb => .inr ?_⟩
    rcases hat10 with q | q
    · have := hv2 b (q ▸ hb); omega
    · rw [q] at hb; cases hb; omega

end Go.Proofs.YtachmkhbbbmioaaGreat

namespace Go.Proofs.YtachmkhbbbmioaaGreat
open Go.RowKit Go.Shelf

theorem findI_skip (c k : Int) : ∀ (B L : List El) (i : Nat), (∀ y ∈ B, ¬ (y.c = c ∧ y.k = k)) → findI c k (B ++ L) i = findI c k L (i + B.length)
  | [], L, i, _ => by simp
  | y :: B, L, i, h => by
    rw [List.cons_append, findI, if_neg (h y (by simp)), findI_skip c k B L (i + 1) (fun z hz => h z (by simp [hz])), List.length_cons]
    congr 1
    omega

theorem findI_none (c k : Int) (L : List El) (i : Nat) (h : ∀ y ∈ L, ¬ (y.c = c ∧ y.k = k)) : findI c k L i = -1 := by
  have := findI_skip c k L [] i h
  rw [List.append_nil] at this
  rw [this]; rfl

abbrev Apart (L : List El) : Prop := L.Pairwise (fun x y => ¬ (x.c = y.c ∧ x.k = y.k))

theorem findI_mid {A R : List El} {x : El} (h : Apart (A ++ x :: R)) : findI x.c x.k (A ++ x :: R) 0 = (A.length : Int) := by
  rw [findI_skip _ _ A _ _ (apart_mem h).1, findI, if_pos ⟨rfl, rfl⟩]
  simp

theorem findI_last {A R : List El} (h : Apart (A ++ R)) (h0 : ∀ x ∈ A ++ R, 0 < x.c) : findI (lc A) (lk A) (A ++ R) 0 = (A.length : Int) - 1 := by
  rcases snoc_cases A with rfl | ⟨B, x, rfl⟩
  · rw [findI_none _ _ _ _ (fun y hy q => by have := h0 y hy; have := q.1; simp only [lc] at this; omega)]
    simp
  · obtain ⟨e1, e2, -, -⟩ := last_snoc B x
    rw [e1, e2]
    rw [List.append_assoc, List.singleton_append] at h ⊢
    rw [findI_mid h]
    simp

/-- The blocks that the copy has behind a call are those that it had, or new. -/
def OwnFrom (own own' : List Nat) (n : Nat) : Prop := ∀ k ∈ own', k ∈ own ∨ n ≤ k

theorem refOwn_from {yb : Nat} {vc vl vw vL vl' vL' : Value} {n : Nat} (h1 : ∀ g, vl'.ownBlock = some g → vl.ownBlock = some g ∨ n ≤ g) (h2 : ∀ g, vL'.ownBlock = some g → vL.ownBlock = some g ∨ n ≤ g) : OwnFrom (refOwn yb vc vl vw vL) (refOwn yb vc vl' vw vL') n := by
  intro k hk
  simp only [refOwn, List.mem_cons, List.mem_append, Option.mem_toList] at hk ⊢
  rcases hk with rfl | hk | hk | hk | hk
  · exact .inl (.inl rfl)
  · exact .inl (.inr (.inl hk))
  · exact (h1 k hk).imp (fun q => .inr (.inr (.inl q))) id
  · exact .inl (.inr (.inr (.inr (.inl hk))))
  · exact (h2 k hk).imp (fun q => .inr (.inr (.inr (.inr q)))) id

set_option maxRecDepth 100000 in
set_option maxHeartbeats 1000000 in
theorem ref_ins_place (yb : Nat) (S : CS) (vc vl vw vL : Value) (log wt : List (List Value)) (p r : Int) (w : World) (h : RefAt yb S vc vl vw vL log wt w) (hlen : S.L.length ≤ 100000) (hp : p < 0 ∨ (vis S.L).length < p) :
    Calls Tryz.prog 91 #[.pointer (some ⟨yb, 0, none⟩), .int .i64 p, .int .i64 r] w fun e w' => e = .returned (.int .i64 3) ∧ Below w.heap.size w w' := by
  have hT := ref_there yb S vc vl vw vL log wt w h (by omega)
  by_cases h0 : p < 0
  · go_enter Tryz.func91, Tryz.ntmps91
    go_wp2_with fail
    refine hT.mono ?_
    rintro e w1 ⟨v, rfl, hR, hf, hB⟩
    go_wp2_with fail
    go_ret
    exact ⟨rfl, hB⟩
  · have h1 : ((vis S.L).length : Int) < p := by omega
    go_enter Tryz.func91, Tryz.ntmps91
    go_wp2_with fail
    refine hT.mono ?_
    rintro e w1 ⟨v, rfl, hR, hf, hB⟩
    obtain ⟨a, c, rfl, hc⟩ := hR.value
    rw [List.length_map] at hc ⊢
    go_wp2_with fail
    go_ret
    exact ⟨rfl, hB⟩

set_option maxRecDepth 100000 in
set_option maxHeartbeats 1000000 in
theorem ref_ins_rune (yb : Nat) (S : CS) (vc vl vw vL : Value) (log wt : List (List Value)) (p r : Int) (w : World) (h : RefAt yb S vc vl vw vL log wt w) (hlen : S.L.length ≤ 100000) (hp0 : 0 ≤ p) (hp : p ≤ (vis S.L).length) (hr : Lib.validRune r = false) :
    Calls Tryz.prog 91 #[.pointer (some ⟨yb, 0, none⟩), .int .i64 p, .int .i64 r] w fun e w' => e = .returned (.int .i64 4) ∧ Below w.heap.size w w' := by
  have hT := ref_there yb S vc vl vw vL log wt w h (by omega)
  have hSc := fun w => scalarR r w
  rw [hr] at hSc
  clear hr
  go_enter Tryz.func91, Tryz.ntmps91
  go_wp2_with fail
  refine hT.mono ?_
  rintro e w1 ⟨v, rfl, hR, hf, hB⟩
  obtain ⟨a, c, rfl, hc⟩ := hR.value
  rw [List.length_map] at hc ⊢
  go_wp2_with (go_at_call 135; refine (hSc _).mono ?_; rintro e w' ⟨rfl, hw⟩; rw [hw]; clear hw w')
  go_ret
  exact ⟨rfl, hB⟩

set_option maxRecDepth 100000 in
set_option maxHeartbeats 1000000 in
theorem ref_ins_full (yb : Nat) (S : CS) (hG : Good S) (vc vl vw vL : Value) (log wt : List (List Value)) (p r : Int) (w : World) (h : RefAt yb S vc vl vw vL log wt w) (hlen : S.L.length ≤ 100000) (hp0 : 0 ≤ p) (hp : p ≤ (vis S.L).length) (hr : Lib.validRune r = true)
    (hfu : decide (100 ≤ S.cl (S.s - 1) ∨ 1099511627776 ≤ S.g) = true) :
    Calls Tryz.prog 91 #[.pointer (some ⟨yb, 0, none⟩), .int .i64 p, .int .i64 r] w fun e w' => e = .returned (.int .i64 5) ∧ Below w.heap.size w w' := by
  have hT := ref_there yb S vc vl vw vL log wt w h (by omega)
  have hSc := fun w => scalarR r w
  rw [hr] at hSc
  have hFu := fun (w' : World) (hw : Below w.heap.size w w') => ref_full yb S vc vl vw vL log wt w' (h.below hw) hG.s1 hG.sn hG.n8
  rw [hfu] at hFu
  clear hr hfu
  go_enter Tryz.func91, Tryz.ntmps91
  go_wp2_with fail
  refine hT.mono ?_
  rintro e w1 ⟨v, rfl, hR, hf, hB⟩
  obtain ⟨a, c, rfl, hc⟩ := hR.value
  rw [List.length_map] at hc ⊢
  go_wp2_with (first | (go_at_call 135; refine (hSc _).mono ?_; rintro e w' ⟨rfl, hw⟩; rw [hw]; clear hw w') | (go_at_call 136; refine (hFu _ hB).mono ?_; rintro e w2 ⟨rfl, hg2⟩))
  go_ret
  exact ⟨rfl, hB.grown hg2 hB.size (by simp)⟩

end Go.Proofs.YtachmkhbbbmioaaGreat

namespace Go.Proofs.YtachmkhbbbmioaaGreat
open Go.RowKit Go.Shelf

/-- The cells of the document's operation; its clock is a list of its own. -/
def opCells (x : OpR) (vk : Value) : List Value := [.int .i64 x.o, .int .i64 x.num, .int .i64 x.c, .int .i64 x.kind, .int .i64 x.tc, .int .i64 x.tk, .int .i64 x.r, vk]

structure NewClk (S : CS) (vk : Value) (n : Nat) (w : World) : Prop where
  row : RowAt 3 1 vk (ckRow S) w
  new : ∀ g, vk.ownBlock = some g → n ≤ g

theorem NewClk.mono {S : CS} {vk : Value} {n m : Nat} {w : World} (h : NewClk S vk n w) (hm : m ≤ n) : NewClk S vk m w := ⟨h.row, fun g hg => Nat.le_trans hm (h.new g hg)⟩

set_option maxRecDepth 100000 in
set_option maxHeartbeats 2000000 in
/-- The write itself: an operation of this copy, applied. -/
theorem ref_write (yb : Nat) (S : CS) (hG : Good S) (vc vl vw vL : Value) (log wt : List (List Value)) (kind tc tk rr : Int) (w : World) (h : RefAt yb S vc vl vw vL log wt w) (hlen : S.L.length ≤ 100000) (hlog : log.length ≤ 100000) (L' : List El)
    (hcase : (kind = 1 ∧ ∃ A x R, S.L = A ++ x :: R ∧ findI tc tk S.L 0 = (A.length : Int) ∧ L' = A ++ gone x :: R) ∨
      (kind = 0 ∧ ∃ (A R : List El) (e : El), S.L = A ++ R ∧ findI tc tk S.L 0 = (A.length : Int) - 1 ∧ e.c = S.g + 1 ∧ e.k = (S.s : Int) ∧ e.r = rr ∧ e.d = false ∧ L' = A ++ behind e R)) :
    Calls Tryz.prog 137 #[.pointer (some ⟨yb, 0, none⟩), .int .i64 kind, .agg #[.int .i64 tc, .int .i64 tk], .int .i64 rr] w fun e1 w1 => ∃ v, e1 = .returned v ∧ Calls Tryz.prog 102 #[.pointer (some ⟨yb, 0, none⟩), v] w1 fun e w' => e = .returned (.tuple #[]) ∧
      ∃ vl' vL' vk, RefAt yb { S with cl := bump S.cl (S.s - 1), g := S.g + 1, L := L' } vc vl' vw vL' (log ++ [opCells ⟨S.s, S.cl (S.s - 1) + 1, S.g + 1, kind, tc, tk, rr, S.cl⟩ vk]) wt w' ∧ NewClk S vk w.heap.size w' ∧ Fr (refOwn yb vc vl vw vL) w w' ∧ OwnFrom (refOwn yb vc vl vw vL) (refOwn yb vc vl' vw vL') w.heap.size := by
  have h8 := hG.n8
  have hn := hG.sn
  have hcl := hG.cl (S.s - 1) (by have := hG.s1; omega)
  refine (ref_own yb S vc vl vw vL log wt kind tc tk rr w h hG).mono ?_
  rintro e w1 ⟨v, rfl, hRv, hfv, hg1⟩
  obtain ⟨va, vp, rfl, -⟩ := hRv.value
  refine ⟨_, rfl, ?_⟩
  refine (ref_apply yb S vc vl vw vL log wt S.s (S.cl (S.s - 1) + 1) (S.g + 1) kind tc tk rr va _ vp w1 (h.grown hg1) hG.s1 hn h8 ⟨hcl.1, by omega⟩ hlen hlog L' hcase).mono ?_
  rintro e w2 ⟨rfl, vl', vL', hr2, hF2, h1, h2⟩
  have em : max S.g (S.g + 1) = S.g + 1 := by omega
  rw [em] at hr2
  have hs := hg1.size
  have hk2 : RowAt 3 1 (.slice va (ckRow S).length vp) (ckRow S) w2 := hRv.kept (fun g hg => hF2.block g (hRv.lt hg) (fun q => by have := h.lt g q; have := hfv g hg; omega))
  refine ⟨rfl, vl', vL', _, hr2, ⟨hk2, hfv⟩, ((Fr.refl _ w).grown hg1 (by simp)).trans hF2, refOwn_from (fun g hg => (h1 g hg).imp id (fun q => by omega)) (fun g hg => (h2 g hg).imp id (fun q => by omega))⟩

theorem OwnFrom.mono {own own' : List Nat} {n m : Nat} (h : OwnFrom own own' n) (hm : m ≤ n) : OwnFrom own own' m := fun k hk => (h k hk).imp id (fun q => Nat.le_trans hm q)

theorem good_pos {S : CS} (hG : Good S) : ∀ x ∈ S.L, 0 < x.c := fun x hx => (hG.mark x hx).1

set_option maxRecDepth 100000 in
set_option maxHeartbeats 2000000 in
theorem ref_ins_ok (yb : Nat) (S : CS) (hG : Good S) (hap : Apart S.L) (vc vl vw vL : Value) (log wt : List (List Value)) (p : Nat) (r : Int) (w : World) (h : RefAt yb S vc vl vw vL log wt w) (hlen : S.L.length ≤ 100000) (hlog : log.length ≤ 100000) (hp : p ≤ (vis S.L).length) (hr : Lib.validRune r = true)
    (hfu : decide (100 ≤ S.cl (S.s - 1) ∨ 1099511627776 ≤ S.g) = false) (A R : List El) (hC : CutIs S.L p A R) :
    Calls Tryz.prog 91 #[.pointer (some ⟨yb, 0, none⟩), .int .i64 p, .int .i64 r] w fun e w' => e = .returned (.int .i64 0) ∧
      ∃ vl' vL' vk, RefAt yb { S with cl := bump S.cl (S.s - 1), g := S.g + 1, L := A ++ behind (newEl S r hr) R } vc vl' vw vL' (log ++ [opCells (opIns S (lc A) (lk A) r) vk]) wt w' ∧ NewClk S vk w.heap.size w' ∧ Fr (refOwn yb vc vl vw vL) w w' ∧ OwnFrom (refOwn yb vc vl vw vL) (refOwn yb vc vl' vw vL') w.heap.size := by
  obtain ⟨hL, hA, hA0, hA1⟩ := hC
  have hT := ref_there yb S vc vl vw vL log wt w h (by omega)
  have hfi : findI (lc A) (lk A) S.L 0 = (A.length : Int) - 1 := by
    have h1 := good_pos hG
    rw [hL] at hap h1 ⊢
    exact findI_last hap h1
  have hW := fun (w' : World) (hw : RefAt yb S vc vl vw vL log wt w') => ref_write yb S hG vc vl vw vL log wt 0 (lc A) (lk A) r w' hw hlen hlog (A ++ behind (newEl S r hr) R) (.inr ⟨rfl, A, R, newEl S r hr, hL, hfi, rfl, rfl, rfl, rfl, rfl⟩)
  have hSc := fun w => scalarR r w
  rw [hr] at hSc
  have hFu := fun (w' : World) (hw : Below w.heap.size w w') => ref_full yb S vc vl vw vL log wt w' (h.below hw) hG.s1 hG.sn hG.n8
  rw [hfu] at hFu
  have hvl : (vis S.L).length ≤ 100000 := Nat.le_trans (List.length_filter_le _ _) hlen
  generalize A ++ behind (newEl S r hr) R = L2 at hW ⊢
  have HW := hide hW
  clear hW hfi hfu hr hap hL
  cases p with
  | zero =>
    obtain rfl := hA0 rfl
    clear hA0 hA1
    go_enter Tryz.func91, Tryz.ntmps91
    go_wp2_with fail
    refine hT.mono ?_
    rintro e w1 ⟨v, rfl, hR, hf, hB⟩
    obtain ⟨a, c, rfl, hc⟩ := hR.value
    rw [List.length_map] at hc ⊢
    go_wp2_with (first | (go_at_call 135; refine (hSc _).mono ?_; rintro e w' ⟨rfl, hw⟩; rw [hw]; clear hw w') | (go_at_call 136; refine (hFu _ hB).mono ?_; rintro e w2 ⟨rfl, hg2⟩))
    have g3 : w2.grownBy (w2.alloc (.cells #[.int .i64 0, .int .i64 0] 86)) none := grown_alloc (grown_refl _) _
    have hr3 := ((h.below hB).grown hg2).grown g3
    have hF3 := (((Fr.refl (refOwn yb vc vl vw vL) w).below hB (Nat.le_refl _)).grown hg2 (by simp)).grown g3 (by simp)
    refine (HW.out _ hr3).mono ?_
    rintro e w5 ⟨v, rfl, hAp⟩
    go_wp2_with fail
    refine hAp.mono ?_
    rintro e w6 ⟨rfl, vl', vL', vk, h1, h2, h3, h4⟩
    go_wp2_with fail
    go_ret
    exact ⟨rfl, vl', vL', vk, h1, h2.mono hF3.size, hF3.trans h3, h4.mono hF3.size⟩
  | succ p =>
    obtain ⟨x, hx, e1, e2⟩ := hA1 p rfl
    rw [e1, e2] at HW
    have ep : (((p + 1 : Nat) : Nat) : Int) = (p : Int) + 1 := by omega
    rw [ep]
    have hp1 : (p : Int) + 1 ≤ ((vis S.L).length : Int) := by omega
    have hp2 : (p : Int) < ((vis S.L).length : Int) := by omega
    have HE : Hid (lc A = x.c ∧ lk A = x.k) := ⟨e1, e2⟩
    clear hA0 hA1 ep e1 e2
    go_enter Tryz.func91, Tryz.ntmps91
    go_wp2_with fail
    refine hT.mono ?_
    rintro e w1 ⟨v, rfl, hR, hf, hB⟩
    obtain ⟨gv, cv, cur, rfl, hc, -, -⟩ := hR.cell (i := p) (x := elCells x) (by simp [hx])
    rw [List.length_map] at hc hR ⊢
    go_upto_region 12 with (first | (go_at_call 135; refine (hSc _).mono ?_; rintro e w' ⟨rfl, hw⟩; rw [hw]; clear hw w') | (go_at_call 136; refine (hFu _ hB).mono ?_; rintro e w2 ⟨rfl, hg2⟩))
    have g3 : w2.grownBy (w2.alloc (.cells #[.int .i64 0, .int .i64 0] 86)) none := grown_alloc (grown_refl _) _
    have k3 : (w2.alloc (.cells #[.int .i64 0, .int .i64 0] 86)).heap[w2.heap.size]? = some (.cells #[.int .i64 0, .int .i64 0] 86) := by rw [heap_alloc_at]; simp
    have hr3 := ((h.below hB).grown hg2).grown g3
    have hR3 := (hR.grown hg2).grown g3
    have hF3 := (((Fr.refl (refOwn yb vc vl vw vL) w).below hB (Nat.le_refl _)).grown hg2 (by simp)).grown g3 (by simp)
    have hs2 : w.heap.size ≤ w2.heap.size := Nat.le_trans hB.size hg2.size
    generalize (w2.alloc (.cells #[.int .i64 0, .int .i64 0] 86)) = w3 at g3 k3 hr3 hR3 hF3 ⊢
    obtain ⟨gv', cv', cur', hv', -, hbv, hcv⟩ := hR3.cell (i := p) (x := elCells x) (by simp [hx])
    simp only [Value.slice.injEq, Option.some.injEq, Addr.mk.injEq, and_true] at hv'
    obtain ⟨rfl, -, rfl⟩ := hv'
    have x0 : w3.cell? ⟨gv, p * 4, none⟩ = some (.int .i64 x.c) := (cell_blk hbv _).trans (hcv 0 _ rfl)
    have x1 : w3.cell? ⟨gv, p * 4 + 1, none⟩ = some (.int .i64 x.k) := (cell_blk hbv _).trans (hcv 1 _ rfl)
    have d0 : w3.cell? ⟨w2.heap.size, 0, none⟩ = some (.int .i64 0) := cell_blk k3 0
    have d1 : w3.cell? ⟨w2.heap.size, 1, none⟩ = some (.int .i64 0) := cell_blk k3 1
    have f0 : w3.frozen? ⟨w2.heap.size, 0, none⟩ = false := frozen_blk k3 0
    have f1 : w3.frozen? ⟨w2.heap.size, 1, none⟩ = false := frozen_blk k3 1
    clear hR hR3 hcv hbv hT hSc hFu
    go_wp2_with fail
    have hr4 : RefAt yb S vc vl vw vL log wt ((w3.setCell ⟨w2.heap.size, 0, none⟩ (.int .i64 x.c)).setCell ⟨w2.heap.size, 1, none⟩ (.int .i64 x.k)) := hr3.kept (fun k hk => by
      have := h.lt k hk
      rw [Below.heap_setCell _ _ _ _ (by simp; omega), Below.heap_setCell _ _ _ _ (by simp; omega)])
    have hF4 := (hF3.setCell (p := ⟨w2.heap.size, 0, none⟩) (.inr (by simp; omega)) (.int .i64 x.c)).setCell (p := ⟨w2.heap.size, 1, none⟩) (.inr (by simp; omega)) (.int .i64 x.k)
    refine (HW.out _ hr4).mono ?_
    rintro e w5 ⟨v, rfl, hAp⟩
    go_wp2_with fail
    refine hAp.mono ?_
    rintro e w6 ⟨rfl, vl', vL', vk, h1, h2, h3, h4⟩
    go_wp2_with fail
    go_ret
    exact ⟨rfl, vl', vL', vk, by rw [HE.out.1, HE.out.2]; exact h1, h2.mono hF4.size, hF4.trans h3, h4.mono hF4.size⟩

set_option maxRecDepth 100000 in
set_option maxHeartbeats 1000000 in
theorem ref_del_place (yb : Nat) (S : CS) (vc vl vw vL : Value) (log wt : List (List Value)) (p : Int) (w : World) (h : RefAt yb S vc vl vw vL log wt w) (hlen : S.L.length ≤ 100000) (hp : p < 0 ∨ (vis S.L).length ≤ p) :
    Calls Tryz.prog 92 #[.pointer (some ⟨yb, 0, none⟩), .int .i64 p] w fun e w' => e = .returned (.int .i64 3) ∧ Below w.heap.size w w' := by
  have hT := ref_there yb S vc vl vw vL log wt w h (by omega)
  by_cases h0 : p < 0
  · go_enter Tryz.func92, Tryz.ntmps92
    go_wp2_with fail
    refine hT.mono ?_
    rintro e w1 ⟨v, rfl, hR, hf, hB⟩
    go_wp2_with fail
    go_ret
    exact ⟨rfl, hB⟩
  · have h1 : ((vis S.L).length : Int) ≤ p := by omega
    go_enter Tryz.func92, Tryz.ntmps92
    go_wp2_with fail
    refine hT.mono ?_
    rintro e w1 ⟨v, rfl, hR, hf, hB⟩
    obtain ⟨a, c, rfl, hc⟩ := hR.value
    rw [List.length_map] at hc ⊢
    go_wp2_with fail
    go_ret
    exact ⟨rfl, hB⟩

set_option maxRecDepth 100000 in
set_option maxHeartbeats 1000000 in
theorem ref_del_full (yb : Nat) (S : CS) (hG : Good S) (vc vl vw vL : Value) (log wt : List (List Value)) (p : Int) (w : World) (h : RefAt yb S vc vl vw vL log wt w) (hlen : S.L.length ≤ 100000) (hp0 : 0 ≤ p) (hp : p < (vis S.L).length)
    (hfu : decide (100 ≤ S.cl (S.s - 1) ∨ 1099511627776 ≤ S.g) = true) :
    Calls Tryz.prog 92 #[.pointer (some ⟨yb, 0, none⟩), .int .i64 p] w fun e w' => e = .returned (.int .i64 5) ∧ Below w.heap.size w w' := by
  have hT := ref_there yb S vc vl vw vL log wt w h (by omega)
  have hFu := fun (w' : World) (hw : Below w.heap.size w w') => ref_full yb S vc vl vw vL log wt w' (h.below hw) hG.s1 hG.sn hG.n8
  rw [hfu] at hFu
  clear hfu
  go_enter Tryz.func92, Tryz.ntmps92
  go_wp2_with fail
  refine hT.mono ?_
  rintro e w1 ⟨v, rfl, hR, hf, hB⟩
  obtain ⟨a, c, rfl, hc⟩ := hR.value
  rw [List.length_map] at hc ⊢
  go_wp2_with (first | (go_at_call 136; refine (hFu _ hB).mono ?_; rintro e w2 ⟨rfl, hg2⟩))
  go_ret
  exact ⟨rfl, hB.grown hg2 hB.size (by simp)⟩

set_option maxRecDepth 100000 in
set_option maxHeartbeats 2000000 in
theorem ref_del_ok (yb : Nat) (S : CS) (hG : Good S) (hap : Apart S.L) (vc vl vw vL : Value) (log wt : List (List Value)) (p : Int) (w : World) (h : RefAt yb S vc vl vw vL log wt w) (hlen : S.L.length ≤ 100000) (hlog : log.length ≤ 100000) (hp0 : 0 ≤ p)
    (hfu : decide (100 ≤ S.cl (S.s - 1) ∨ 1099511627776 ≤ S.g) = false) (A R : List El) (x : El) (hL : S.L = A ++ x :: R) (hA : (vis A).length = p.toNat) (hd : x.d = false) :
    Calls Tryz.prog 92 #[.pointer (some ⟨yb, 0, none⟩), .int .i64 p] w fun e w' => e = .returned (.int .i64 0) ∧
      ∃ vl' vL' vk, RefAt yb { S with cl := bump S.cl (S.s - 1), g := S.g + 1, L := A ++ gone x :: R } vc vl' vw vL' (log ++ [opCells (opDel S x.c x.k) vk]) wt w' ∧ NewClk S vk w.heap.size w' ∧ Fr (refOwn yb vc vl vw vL) w w' ∧ OwnFrom (refOwn yb vc vl vw vL) (refOwn yb vc vl' vw vL') w.heap.size := by
  obtain ⟨p, rfl⟩ := Int.eq_ofNat_of_zero_le hp0
  rw [Int.toNat_natCast] at hA
  have hT := ref_there yb S vc vl vw vL log wt w h (by omega)
  have hx : (vis S.L)[p]? = some x := by rw [hL, vis_append, vis_cons_there hd, ← hA]; simp
  have hfi : findI x.c x.k S.L 0 = (A.length : Int) := by rw [hL] at hap ⊢; exact findI_mid hap
  have hW := fun (w' : World) (hw : RefAt yb S vc vl vw vL log wt w') => ref_write yb S hG vc vl vw vL log wt 1 x.c x.k 0 w' hw hlen hlog (A ++ gone x :: R) (.inl ⟨rfl, A, x, R, hL, hfi, rfl⟩)
  have hFu := fun (w' : World) (hw : Below w.heap.size w w') => ref_full yb S vc vl vw vL log wt w' (h.below hw) hG.s1 hG.sn hG.n8
  rw [hfu] at hFu
  have hvl : (vis S.L).length ≤ 100000 := Nat.le_trans (List.length_filter_le _ _) hlen
  have hp2 : (p : Int) < ((vis S.L).length : Int) := by have := (List.getElem?_eq_some_iff.1 hx).1; omega
  generalize A ++ gone x :: R = L2 at hW ⊢
  have HW := hide hW
  clear hW hfi hfu hap hL hA hd
  go_enter Tryz.func92, Tryz.ntmps92
  go_wp2_with fail
  refine hT.mono ?_
  rintro e w1 ⟨v, rfl, hR, hf, hB⟩
  obtain ⟨gv, cv, cur, rfl, hc, -, -⟩ := hR.cell (i := p) (x := elCells x) (by simp [hx])
  rw [List.length_map] at hc hR ⊢
  go_upto_region 7 with (first | (go_at_call 136; refine (hFu _ hB).mono ?_; rintro e w3 ⟨rfl, hg2⟩))
  have hr3 := ((h.below hB).grown hg2)
  have hR3 := (hR.grown hg2)
  have hF3 := (((Fr.refl (refOwn yb vc vl vw vL) w).below hB (Nat.le_refl _)).grown hg2 (by simp))
  obtain ⟨gv', cv', cur', hv', -, hbv, hcv⟩ := hR3.cell (i := p) (x := elCells x) (by simp [hx])
  simp only [Value.slice.injEq, Option.some.injEq, Addr.mk.injEq, and_true] at hv'
  obtain ⟨rfl, -, rfl⟩ := hv'
  have x0 : w3.cell? ⟨gv, p * 4, none⟩ = some (.int .i64 x.c) := (cell_blk hbv _).trans (hcv 0 _ rfl)
  have x1 : w3.cell? ⟨gv, p * 4 + 1, none⟩ = some (.int .i64 x.k) := (cell_blk hbv _).trans (hcv 1 _ rfl)
  clear hR hR3 hcv hbv hT hFu
  go_wp2_with fail
  refine (HW.out _ hr3).mono ?_
  rintro e w5 ⟨v, rfl, hAp⟩
  go_wp2_with fail
  refine hAp.mono ?_
  rintro e w6 ⟨rfl, vl', vL', vk, h1, h2, h3, h4⟩
  go_wp2_with fail
  go_ret
  exact ⟨rfl, vl', vL', vk, h1, h2.mono hF3.size, hF3.trans h3, h4.mono hF3.size⟩

end Go.Proofs.YtachmkhbbbmioaaGreat

namespace Go.Proofs.YtachmkhbbbmioaaGreat
open Go.RowKit Go.Shelf

def intRow (xs : List Int) : List (List Value) := xs.map fun x => [.int .i64 x]
theorem intRow_len (xs : List Int) : (intRow xs).length = xs.length := by simp [intRow]
theorem intRow_at {xs : List Int} {i : Nat} {x : Int} (h : xs[i]? = some x) : (intRow xs)[i]? = some [.int .i64 x] := by simp [intRow, h]

set_option maxRecDepth 100000 in
set_option maxHeartbeats 1000000 in
theorem numbersR (xs : List Int) (hxs : ∀ x ∈ xs, 0 ≤ x ∧ x < 9223372036854775808) (hl : xs.length ≤ 1000) (v : Value) (w : World) (hv : RowAt 3 1 v (intRow xs) w) :
    Calls Tryz.prog 74 #[v] w fun e w' => e = .returned (str (vbs xs)) ∧ w.grownBy w' none := by
  obtain ⟨av, cv, rfl, hcv⟩ := hv.value
  rw [intRow_len] at hv hcv ⊢
  go_enter Tryz.func74, Tryz.ntmps74
  go_wp2_with fail
  go_loopg [3, 4] xs.length (fun g s3 s4 wr => ∃ (i : Nat), s4 = .int .i64 i ∧ i ≤ xs.length ∧ g = xs.length - i ∧ s3 = str (vbs (xs.take i)) ∧ w.grownBy wr none)
  case atStart => exact ⟨0, rfl, by omega, rfl, by simp [vbs], grown_refl _⟩
  case round =>
    obtain ⟨i, rfl, hil, hgk, rfl, hG⟩ := hrel
    by_cases hlt : i < xs.length
    · have hli : (i : Int) < (xs.length : Int) := by omega
      obtain ⟨x, hx⟩ : ∃ x, xs[i]? = some x := ⟨xs[i], by simp [hlt]⟩
      have hxb := hxs x (List.mem_of_getElem? hx)
      obtain ⟨g1, c1, cur1, hv1, -, hb1, hx1⟩ := (hv.grown hG).cell (i := i) (intRow_at hx)
      rw [intRow_len] at hv1
      cases hv1
      have k1 : wr.cell? ⟨g1, i, none⟩ = some (.int .i64 x) := (cell_blk hb1 _).trans (by simpa using hx1 0 _ rfl)
      have h1 := vbs_len (xs.take i) (fun y hy => (hxs y (List.mem_of_mem_take hy)).2)
      have h1' : (xs.take i).length ≤ 1000 := by simp; omega
      have h2 := vb_len9 x hxb.2
      have ha := fun w => sadd (vbs (xs.take i)) (vb x.toNat) (by omega) w
      rw [← vbs_take xs i x hx] at ha
      have hV := hide (varintR x hxb.1 hxb.2 wr)
      clear h1 h2 h1' hx1
      go_wp2_with fail
      refine hV.out.mono ?_
      rintro e w2 ⟨rfl, hg2⟩
      go_wp2_with fail
      go_roundg (xs.length - (i + 1))
      case measure => omega
      case rel => exact ⟨i + 1, by go_num, by omega, rfl, rfl, grown_trans hG hg2⟩
    · obtain rfl : i = xs.length := by omega
      rw [List.take_length]
      go_wp2_with fail
      go_ret
      exact ⟨rfl, hG⟩

theorem len_of {a b c : List UInt8} (h : a ++ b = c) : c.length = a.length + b.length := by rw [← h]; simp
theorem sadd' {a b c : List UInt8} (h : a ++ b = c) (hl : a.length + b.length ≤ 100000000) : ∀ w, (Op.stringOp .add ⟨a.toArray⟩ ⟨b.toArray⟩).run Tryz.prog w = .ok (str c) w := fun w => by rw [← h]; exact sadd a b hl w

theorem cell_of_grown {w w' : World} {a : Addr} {x : Value} (h : w.cell? a = some x) (g : w.grownBy w' none) : w'.cell? a = some x :=
  (World.cell?_of_block (g.block _ (lt_cellW h) (by simp))).trans h

/-- An operation without numbers below 0. -/
structure OpNn (x : OpR) : Prop where
  o : 0 ≤ x.o ∧ x.o < 9223372036854775808
  num : 0 ≤ x.num ∧ x.num < 9223372036854775808
  c : 0 ≤ x.c ∧ x.c < 9223372036854775808
  kind : 0 ≤ x.kind ∧ x.kind < 9223372036854775808
  tc : 0 ≤ x.tc ∧ x.tc < 9223372036854775808
  tk : 0 ≤ x.tk ∧ x.tk < 9223372036854775808
  r : 0 ≤ x.r ∧ x.r < 9223372036854775808
  q : ∀ i, i < 8 → 0 ≤ x.q i ∧ x.q i < 9223372036854775808

theorem OpOk.nn {n : Nat} (h8 : n ≤ 8) {x : OpR} (h : OpOk n x) : OpNn x := by
  obtain ⟨b0, b1, b2, b3, b4, b5, b6, b7⟩ := h
  exact ⟨by omega, by omega, by omega, by omega, by omega, by omega, by omega, fun i hi => by have := b7 i hi; omega⟩

set_option maxRecDepth 100000 in
set_option maxHeartbeats 4000000 in
theorem writeOpN (x : OpR) (n : Nat) (h8 : n ≤ 8) (hx : OpNn x) (vk : Value) (w : World) (hk : RowAt 3 1 vk (intRow (clk n x.q)) w) :
    Calls Tryz.prog 75 #[.agg #[.int .i64 x.o, .int .i64 x.num, .int .i64 x.c, .int .i64 x.kind, .int .i64 x.tc, .int .i64 x.tk, .int .i64 x.r, vk]] w fun e w' => e = .returned (str (x.bytes n)) ∧ w.grownBy w' none := by
  obtain ⟨b0, b1, b2, b3, b4, b5, b6, b7⟩ := hx
  obtain ⟨ak, ck, rfl, -⟩ := hk.value
  rw [intRow_len, clk_len] at hk ⊢
  go_enter Tryz.func75, Tryz.ntmps75
  go_upto_region 1 with fail
  have g1 : w.grownBy (w.alloc (.cells #[.int .i64 x.o, .int .i64 x.num, .int .i64 x.c, .int .i64 x.kind, .int .i64 x.tc, .int .i64 x.tk, .int .i64 x.r, Value.slice ak n ck] 88)) none := grown_alloc (grown_refl _) _
  have k1 : (w.alloc (.cells #[.int .i64 x.o, .int .i64 x.num, .int .i64 x.c, .int .i64 x.kind, .int .i64 x.tc, .int .i64 x.tk, .int .i64 x.r, Value.slice ak n ck] 88)).heap[w.heap.size]? = some (.cells #[.int .i64 x.o, .int .i64 x.num, .int .i64 x.c, .int .i64 x.kind, .int .i64 x.tc, .int .i64 x.tk, .int .i64 x.r, Value.slice ak n ck] 88) := by rw [heap_alloc_at]; simp
  generalize (w.alloc (.cells #[.int .i64 x.o, .int .i64 x.num, .int .i64 x.c, .int .i64 x.kind, .int .i64 x.tc, .int .i64 x.tk, .int .i64 x.r, Value.slice ak n ck] 88)) = w1 at g1 k1 ⊢
  generalize w.heap.size = bb at k1 ⊢
  have c0 : w1.cell? ⟨bb, 0, none⟩ = some (.int .i64 x.o) := cell_blk k1 0
  have c1 : w1.cell? ⟨bb, 1, none⟩ = some (.int .i64 x.num) := cell_blk k1 1
  have c2 : w1.cell? ⟨bb, 2, none⟩ = some (.int .i64 x.c) := cell_blk k1 2
  have c3 : w1.cell? ⟨bb, 3, none⟩ = some (.int .i64 x.kind) := cell_blk k1 3
  have c4 : w1.cell? ⟨bb, 4, none⟩ = some (.int .i64 x.tc) := cell_blk k1 4
  have c5 : w1.cell? ⟨bb, 5, none⟩ = some (.int .i64 x.tk) := cell_blk k1 5
  have l0 := vb_len9 x.o (by omega)
  have l1 := vb_len9 x.num (by omega)
  have l2 := vb_len9 x.c (by omega)
  have l3 := vb_len9 x.kind (by omega)
  have l4 := vb_len9 x.tc (by omega)
  have l5 := vb_len9 x.tk (by omega)
  obtain ⟨m1, e1⟩ : ∃ m, vb x.o.toNat ++ vb x.num.toNat = m := ⟨_, rfl⟩
  obtain ⟨m2, e2⟩ : ∃ m, m1 ++ vb x.c.toNat = m := ⟨_, rfl⟩
  obtain ⟨m3, e3⟩ : ∃ m, m2 ++ vb x.kind.toNat = m := ⟨_, rfl⟩
  obtain ⟨m4, e4⟩ : ∃ m, m3 ++ vb x.tc.toNat = m := ⟨_, rfl⟩
  obtain ⟨m5, e5⟩ : ∃ m, m4 ++ vb x.tk.toNat = m := ⟨_, rfl⟩
  have q1 := len_of e1
  have q2 := len_of e2
  have q3 := len_of e3
  have q4 := len_of e4
  have q5 := len_of e5
  have a1 := sadd' e1 (by omega)
  have a2 := sadd' e2 (by omega)
  have a3 := sadd' e3 (by omega)
  have a4 := sadd' e4 (by omega)
  have a5 := sadd' e5 (by omega)
  have E : Hid (m5 = vb x.o.toNat ++ vb x.num.toNat ++ vb x.c.toNat ++ vb x.kind.toNat ++ vb x.tc.toNat ++ vb x.tk.toNat ∧ m5.length ≤ 60) := ⟨by rw [e1, e2, e3, e4, e5], by omega⟩
  clear e1 e2 e3 e4 e5 q1 q2 q3 q4 q5 l0 l1 l2 l3 l4 l5
  have hV : ∀ (y : Int), y = x.o ∨ y = x.num ∨ y = x.c ∨ y = x.kind ∨ y = x.tc ∨ y = x.tk → ∀ W, w1.grownBy W none → Calls Tryz.prog 73 #[.int .i64 y] W fun e w' => e = .returned (str (vb y.toNat)) ∧ w1.grownBy w' none := fun y hy W hW => by
    refine (varintR y (by omega) (by omega) W).mono ?_
    rintro e w' ⟨rfl, hg⟩
    exact ⟨rfl, grown_trans hW hg⟩
  have HV := hide hV
  clear hV
  go_cut [3] (fun s3 wx => s3 = str m5 ∧ w1.grownBy wx none)
  case first =>
    go_region_held3 (fun w' => w'.cell? ⟨bb, 0, none⟩ = some (.int .i64 x.o) ∧ w'.cell? ⟨bb, 1, none⟩ = some (.int .i64 x.num) ∧ w'.cell? ⟨bb, 2, none⟩ = some (.int .i64 x.c) ∧ w'.cell? ⟨bb, 3, none⟩ = some (.int .i64 x.kind) ∧ w'.cell? ⟨bb, 4, none⟩ = some (.int .i64 x.tc) ∧ w'.cell? ⟨bb, 5, none⟩ = some (.int .i64 x.tk))
      (first | go_keep | exact ⟨cell_of_grown c0 hg, cell_of_grown c1 hg, cell_of_grown c2 hg, cell_of_grown c3 hg, cell_of_grown c4 hg, cell_of_grown c5 hg⟩)
      (first | (go_at_call 73; refine (HV.out _ (by simp) _ (by first | assumption | exact grown_drew (grown_refl _))).mono ?_; rintro e w' ⟨rfl, hg⟩))
    all_goals
      go_wp2_with fail
      go_meet
      exact ⟨rfl, by first | assumption | exact grown_drew (by assumption)⟩
  case rest =>
  obtain ⟨rfl, g2⟩ := hcut
  have hk2 := hk.grown (grown_trans g1 g2)
  have gA := grown_trans g1 g2
  have d3 := cell_of_grown c3 g2
  have d6 : wc.cell? ⟨bb, 6, none⟩ = some (.int .i64 x.r) := cell_of_grown (cell_blk k1 6) g2
  have d7 : wc.cell? ⟨bb, 7, none⟩ = some (.slice ak n ck) := cell_of_grown (cell_blk k1 7) g2
  clear c0 c1 c2 c3 c4 c5 a1 a2 a3 a4 a5 g1 g2 hk HV
  have hcq : ∀ y ∈ clk n x.q, 0 ≤ y ∧ y < 9223372036854775808 := fun y hy => by
    obtain ⟨i, hi, rfl⟩ := List.mem_map.1 hy
    have := b7 i (by have := List.mem_range.1 hi; omega)
    omega
  have lq := vbs_len (clk n x.q) (fun y hy => (hcq y hy).2)
  rw [clk_len] at lq
  have hN := fun (W : World) (hW : wc.grownBy W none) => numbersR (clk n x.q) hcq (by rw [clk_len]; omega) (.slice ak n ck) W (hk2.grown hW)
  obtain ⟨q, hq⟩ : ∃ q, vbs (clk n x.q) = q := ⟨_, rfl⟩
  have HB : Hid (x.bytes n = vbs x.nums ++ q) := by rw [← hq]; exact rfl
  rw [hq] at hN lq
  have HN := hide hN
  have HE := E
  have l6 := vb_len9 x.r (by omega)
  have m5l := HE.out.2
  clear hq hN E
  by_cases hk0 : x.kind = 0
  · obtain ⟨m6, e6⟩ : ∃ m, m5 ++ vb x.r.toNat = m := ⟨_, rfl⟩
    obtain ⟨m7, e7⟩ : ∃ m, m6 ++ q = m := ⟨_, rfl⟩
    have q6 := len_of e6
    have q7 := len_of e7
    have a6 := sadd' e6 (by omega)
    have a7 := sadd' e7 (by omega)
    have hV := hide (varintR x.r b6.1 (by omega) wc)
    have fin : x.bytes n = m7 := by
      rw [HB.out, ← e7, ← e6, HE.out.1]
      simp [OpR.nums, hk0, vbs]
    have HF := hide fin
    rw [hk0] at d3
    clear fin e6 e7 q6 q7 m5l l6 lq hk0
    go_wp2_with fail
    refine hV.out.mono ?_
    rintro e w3 ⟨rfl, g3⟩
    have f7 := cell_of_grown d7 g3
    go_wp2_with fail
    refine (HN.out _ g3).mono ?_
    rintro e w4 ⟨rfl, g4⟩
    go_wp2_with fail
    go_ret
    rw [HF.out]
    exact ⟨rfl, grown_trans gA (grown_trans g3 g4)⟩
  · have hkb : (x.kind == 0) = false := by simp [hk0]
    obtain ⟨m7, e7⟩ : ∃ m, m5 ++ q = m := ⟨_, rfl⟩
    have q7 := len_of e7
    have a7 := sadd' e7 (by omega)
    have fin : x.bytes n = m7 := by
      rw [HB.out, ← e7, HE.out.1]
      simp [OpR.nums, hk0, vbs]
    have HF := hide fin
    clear fin e7 q7 m5l l6 lq hk0
    go_wp2_with fail
    refine (HN.out _ (grown_refl _)).mono ?_
    rintro e w4 ⟨rfl, g4⟩
    go_wp2_with fail
    go_ret
    rw [HF.out]
    exact ⟨rfl, grown_trans gA g4⟩

theorem writeOpR (x : OpR) (n : Nat) (h8 : n ≤ 8) (hx : OpOk n x) (vk : Value) (w : World) (hk : RowAt 3 1 vk (intRow (clk n x.q)) w) :
    Calls Tryz.prog 75 #[.agg #[.int .i64 x.o, .int .i64 x.num, .int .i64 x.c, .int .i64 x.kind, .int .i64 x.tc, .int .i64 x.tk, .int .i64 x.r, vk]] w fun e w' => e = .returned (str (x.bytes n)) ∧ w.grownBy w' none := writeOpN x n h8 (hx.nn h8) vk w hk

end Go.Proofs.YtachmkhbbbmioaaGreat

namespace Go.Proofs.YtachmkhbbbmioaaGreat
open Go.RowKit Go.Shelf

theorem clk_mem {n : Nat} {q : Nat → Int} {y : Int} (h : y ∈ clk n q) : ∃ i, i < n ∧ y = q i := by
  obtain ⟨i, hi, rfl⟩ := List.mem_map.1 h
  exact ⟨i, List.mem_range.1 hi, rfl⟩

set_option maxRecDepth 100000 in
set_option maxHeartbeats 4000000 in
/-- A digest, as the document writes it. -/
theorem writeDigN (s : Int) (hs0 : 0 < s) (hs8 : s < 9223372036854775808) (n : Nat) (h8 : n ≤ 8) (q : Nat → Int) (hq : ∀ i, i < n → 0 ≤ q i ∧ q i < 9223372036854775808) (vk vo : Value) (w : World) (hk : RowAt 3 1 vk (intRow (clk n q)) w) :
    Calls Tryz.prog 42 #[.agg #[.int .i64 s, vk, vo]] w fun e w' => e = .returned (str (digest n s q)) ∧ w.grownBy w' none := by
  have hcq : ∀ y ∈ clk n q, 0 ≤ y ∧ y < 9223372036854775808 := fun y hy => by
    obtain ⟨i, hi, rfl⟩ := clk_mem hy
    have := hq i hi
    omega
  obtain ⟨ak, ck, rfl, -⟩ := hk.value
  rw [intRow_len, clk_len] at hk ⊢
  go_enter Tryz.func42, Tryz.ntmps42
  go_upto_region 2 with fail
  have g1 : w.grownBy (w.alloc (.cells #[.int .i64 s, .slice ak n ck, vo] 84)) none := grown_alloc (grown_refl _) _
  have k1 : (w.alloc (.cells #[.int .i64 s, .slice ak n ck, vo] 84)).heap[w.heap.size]? = some (.cells #[.int .i64 s, .slice ak n ck, vo] 84) := by rw [heap_alloc_at]; simp
  generalize (w.alloc (.cells #[.int .i64 s, .slice ak n ck, vo] 84)) = w1 at g1 k1 ⊢
  generalize w.heap.size = bb at k1 ⊢
  have c0 : w1.cell? ⟨bb, 0, none⟩ = some (.int .i64 s) := cell_blk k1 0
  have c1 : w1.cell? ⟨bb, 1, none⟩ = some (.slice ak n ck) := cell_blk k1 1
  have l0 := vb_len9 s (by omega)
  have lq := vbs_len (clk n q) (fun y hy => (hcq y hy).2)
  rw [clk_len] at lq
  obtain ⟨v0, hv0⟩ : ∃ m, vb s.toNat = m := ⟨_, rfl⟩
  obtain ⟨v1, hv1⟩ : ∃ m, vbs (clk n q) = m := ⟨_, rfl⟩
  obtain ⟨m1, e1⟩ : ∃ m, [68] ++ v0 = m := ⟨_, rfl⟩
  obtain ⟨m2, e2⟩ : ∃ m, m1 ++ v1 = m := ⟨_, rfl⟩
  rw [hv0] at l0
  rw [hv1] at lq
  have q1 := len_of e1
  have q2 := len_of e2
  simp only [List.length_cons, List.length_nil] at q1
  have a1 := sadd' e1 (by simp; omega)
  have a2 := sadd' e2 (by omega)
  have E : Hid (m2 = 68 :: vbs (s :: clk n q)) := by
    show m2 = 68 :: vbs (s :: clk n q)
    rw [← e2, ← e1, ← hv0, ← hv1]; rfl
  have L2 : m2.length ≤ 100 := by omega
  have hV : ∀ W, w1.grownBy W none → Calls Tryz.prog 73 #[.int .i64 s] W fun e w' => e = .returned (str v0) ∧ w1.grownBy w' none := fun W hW => by
    refine (varintR s (by omega) (by omega) W).mono ?_
    rintro e w' ⟨rfl, hg⟩
    exact ⟨by rw [hv0], grown_trans hW hg⟩
  have hN : ∀ W, w1.grownBy W none → Calls Tryz.prog 74 #[.slice ak n ck] W fun e w' => e = .returned (str v1) ∧ w1.grownBy w' none := fun W hW => by
    refine (numbersR (clk n q) hcq (by rw [clk_len]; omega) (.slice ak n ck) W (hk.grown (grown_trans g1 hW))).mono ?_
    rintro e w' ⟨rfl, hg⟩
    exact ⟨by rw [hv1], grown_trans hW hg⟩
  have HV := hide hV
  have HN := hide hN
  clear hV hN e1 e2 q1 q2 l0 lq hv0 hv1
  go_upto_region 3 with fail
  go_cut [3] (fun s3 wx => s3 = str m2 ∧ w1.grownBy wx none)
  case first =>
    go_region_held3 (fun w' => w'.cell? ⟨bb, 0, none⟩ = some (.int .i64 s) ∧ w'.cell? ⟨bb, 1, none⟩ = some (.slice ak n ck))
      (first | go_keep | exact ⟨cell_of_grown c0 hg, cell_of_grown c1 hg⟩)
      (first | (go_at_call 73; refine (HV.out _ (by first | assumption | exact grown_drew (grown_refl _))).mono ?_; rintro e w' ⟨rfl, hg⟩) | (go_at_call 74; refine (HN.out _ (by first | assumption | exact grown_drew (grown_refl _))).mono ?_; rintro e w' ⟨rfl, hg⟩))
    all_goals
      go_wp2_with fail
      go_meet
      exact ⟨rfl, by first | assumption | exact grown_drew (by assumption)⟩
  case rest =>
  obtain ⟨rfl, g2⟩ := hcut
  have hS := hide (sumR m2 (by omega) wc)
  obtain ⟨m3, e3⟩ : ∃ m, m2 ++ sum4 m2 = m := ⟨_, rfl⟩
  have a3 := sadd' e3 (by simp [sum4]; omega)
  have E3 : Hid (digest n s q = m3) := by
    show digest n s q = m3
    rw [← e3, E.out]; rfl
  generalize sum4 m2 = v4 at a3 hS
  clear e3 a1 a2
  go_wp2_with fail
  refine hS.out.mono ?_
  rintro e w3 ⟨rfl, g3⟩
  go_wp2_with fail
  go_ret
  rw [E3.out]
  exact ⟨rfl, grown_trans g1 (grown_trans g2 g3)⟩

theorem writeDigR (s : Int) (hs0 : 0 < s) (hs8 : s ≤ 8) (n : Nat) (h8 : n ≤ 8) (q : Nat → Int) (hq : ∀ i, i < n → 0 ≤ q i ∧ q i ≤ 100) (vk vo : Value) (w : World) (hk : RowAt 3 1 vk (intRow (clk n q)) w) :
    Calls Tryz.prog 42 #[.agg #[.int .i64 s, vk, vo]] w fun e w' => e = .returned (str (digest n s q)) ∧ w.grownBy w' none := writeDigN s hs0 (by omega) n h8 q (fun i hi => by have := hq i hi; omega) vk vo w hk


/-- Operations in a list of the document's; each has a clock of its own. -/
def OpsRow (n : Nat) (v : Value) (l : List OpR) (w : World) : Prop :=
  ∃ rows, RowAt 88 8 v rows w ∧ rows.length = l.length ∧ ∀ (j : Nat) (x : OpR), l[j]? = some x → ∃ vk, rows[j]? = some (opCells x vk) ∧ RowAt 3 1 vk (intRow (clk n x.q)) w

theorem OpsRow.grown {n : Nat} {v : Value} {l : List OpR} {w w' : World} (h : OpsRow n v l w) (g : w.grownBy w' none) : OpsRow n v l w' := by
  obtain ⟨rows, h1, h2, h3⟩ := h
  exact ⟨rows, h1.grown g, h2, fun j x hj => by obtain ⟨vk, a, b⟩ := h3 j x hj; exact ⟨vk, a, b.grown g⟩⟩

theorem flat_take_op (n : Nat) (l : List OpR) (i : Nat) (x : OpR) (h : l[i]? = some x) : (l.take (i + 1)).flatMap (OpR.bytes n) = (l.take i).flatMap (OpR.bytes n) ++ x.bytes n := by
  rw [List.take_add_one, h, List.flatMap_append]; simp

theorem bytes_lenN {n : Nat} (h8 : n ≤ 8) {x : OpR} (hx : OpNn x) : (x.bytes n).length ≤ 150 := by
  obtain ⟨b0, b1, b2, b3, b4, b5, b6, b7⟩ := hx
  have h1 := vbs_len x.nums (fun y hy => by
    unfold OpR.nums at hy
    rcases List.mem_append.1 hy with hy | hy
    · simp only [List.mem_cons, List.not_mem_nil, or_false] at hy
      omega
    · split at hy
      · simp only [List.mem_cons, List.not_mem_nil, or_false] at hy; omega
      · cases hy)
  have h2 := vbs_len (clk n x.q) (fun y hy => by
    obtain ⟨i, hi, rfl⟩ := clk_mem hy
    have := b7 i (by omega)
    omega)
  rw [clk_len] at h2
  have h3 : x.nums.length ≤ 7 := by
    unfold OpR.nums
    split <;> simp
  unfold OpR.bytes
  rw [List.length_append]
  omega

theorem bytes_len {n : Nat} (h8 : n ≤ 8) {x : OpR} (hx : OpOk n x) : (x.bytes n).length ≤ 150 := bytes_lenN h8 (hx.nn h8)

theorem flat_lenN {n : Nat} (h8 : n ≤ 8) (l : List OpR) (h : ∀ x ∈ l, OpNn x) : (l.flatMap (OpR.bytes n)).length ≤ 150 * l.length := by
  induction l with
  | nil => simp
  | cons x l ih =>
    have h1 := bytes_lenN h8 (h x (by simp))
    have h2 := ih (fun y hy => h y (by simp [hy]))
    rw [List.flatMap_cons, List.length_append, List.length_cons]
    omega

theorem flat_len_op {n : Nat} (h8 : n ≤ 8) (l : List OpR) (h : ∀ x ∈ l, OpOk n x) : (l.flatMap (OpR.bytes n)).length ≤ 150 * l.length := flat_lenN h8 l (fun x hx => (h x hx).nn h8)

set_option maxRecDepth 100000 in
set_option maxHeartbeats 4000000 in
/-- A batch, as the document writes it. -/
theorem writeBatN (n : Nat) (h8 : n ≤ 8) (l : List OpR) (hl : l.length ≤ 200000) (hok : ∀ x ∈ l, OpNn x) (vk vo : Value) (w : World) (ho : OpsRow n vo l w) :
    Calls Tryz.prog 42 #[.agg #[.int .i64 0, vk, vo]] w fun e w' => e = .returned (str (batch n l)) ∧ w.grownBy w' none := by
  obtain ⟨rows, hR, hRl, hRx⟩ := ho
  obtain ⟨ao, co, rfl, -⟩ := hR.value
  rw [hRl] at hR ⊢
  go_enter Tryz.func42, Tryz.ntmps42
  go_upto_region 2 with fail
  have g1 : w.grownBy (w.alloc (.cells #[.int .i64 0, vk, .slice ao l.length co] 84)) none := grown_alloc (grown_refl _) _
  have k1 : (w.alloc (.cells #[.int .i64 0, vk, .slice ao l.length co] 84)).heap[w.heap.size]? = some (.cells #[.int .i64 0, vk, .slice ao l.length co] 84) := by rw [heap_alloc_at]; simp
  generalize (w.alloc (.cells #[.int .i64 0, vk, .slice ao l.length co] 84)) = w1 at g1 k1 ⊢
  generalize w.heap.size = bb at k1 ⊢
  have c0 : w1.cell? ⟨bb, 0, none⟩ = some (.int .i64 0) := cell_blk k1 0
  have c2 : w1.cell? ⟨bb, 2, none⟩ = some (.slice ao l.length co) := cell_blk k1 2
  have l0 := vb_len9 (l.length : Int) (by omega)
  obtain ⟨v0, hv0⟩ : ∃ m, vb (l.length : Int).toNat = m := ⟨_, rfl⟩
  obtain ⟨m1, e1⟩ : ∃ m, [66] ++ v0 = m := ⟨_, rfl⟩
  rw [hv0] at l0
  have q1 := len_of e1
  simp only [List.length_cons, List.length_nil] at q1
  have a1 := sadd' e1 (by simp; omega)
  have E1 : Hid (m1 = 66 :: vb l.length) := by
    show m1 = 66 :: vb l.length
    rw [← e1, ← hv0, Int.toNat_natCast]; rfl
  have hV : Calls Tryz.prog 73 #[.int .i64 l.length] w1 fun e w' => e = .returned (str v0) ∧ w1.grownBy w' none := by
    refine (varintR l.length (by omega) (by omega) w1).mono ?_
    rintro e w' ⟨rfl, hg⟩
    exact ⟨by rw [hv0], hg⟩
  have HV := hide hV
  have L1 : m1.length ≤ 20 := by omega
  clear hV hv0 e1 q1 l0
  go_wp2_with fail
  refine HV.out.mono ?_
  rintro e w2 ⟨rfl, g2⟩
  go_wp2_with fail
  clear a1 HV
  have hcell : ∀ W, w2.grownBy W none → W.cell? ⟨bb, 2, none⟩ = some (.slice ao l.length co) := fun W hW => cell_of_grown c2 (grown_trans g2 hW)
  have HC := hide hcell
  clear hcell
  go_loopg [3, 4] l.length (fun gk s3 s4 wr => ∃ (i : Nat) (m : List UInt8), s4 = .int .i64 i ∧ i ≤ l.length ∧ gk = l.length - i ∧ s3 = str m ∧ Hid (m = m1 ++ (l.take i).flatMap (OpR.bytes n)) ∧ w2.grownBy wr none)
  case atStart => exact ⟨0, m1, rfl, by omega, rfl, rfl, hide (by simp), grown_refl _⟩
  case round =>
    obtain ⟨i, m, rfl, hil, hgk, rfl, hm, hG⟩ := hrel
    have d2 := HC.out _ hG
    have hml := flat_lenN h8 (l.take i) (fun x hx => hok x (List.mem_of_mem_take hx))
    have htl : (l.take i).length ≤ 200000 := by simp; omega
    have hml2 : m.length ≤ 40000000 := by rw [hm.out, List.length_append]; omega
    by_cases hlt : i < l.length
    · have hli : (i : Int) < (l.length : Int) := by omega
      obtain ⟨x, hx⟩ : ∃ x, l[i]? = some x := ⟨l[i], by simp [hlt]⟩
      have hxo := hok x (List.mem_of_getElem? hx)
      obtain ⟨vx, hrow, hclk⟩ := hRx i x hx
      obtain ⟨gr, cr, cur, hvr, -, hbr, hcr⟩ := (hR.grown (grown_trans g1 (grown_trans g2 hG))).cell hrow
      rw [hRl] at hvr
      cases hvr
      have r0 : wr.cell? ⟨gr, i * 8, none⟩ = some (.int .i64 x.o) := (cell_blk hbr _).trans (hcr 0 _ rfl)
      have r1 : wr.cell? ⟨gr, i * 8 + 1, none⟩ = some (.int .i64 x.num) := (cell_blk hbr _).trans (hcr 1 _ rfl)
      have r2 : wr.cell? ⟨gr, i * 8 + 2, none⟩ = some (.int .i64 x.c) := (cell_blk hbr _).trans (hcr 2 _ rfl)
      have r3 : wr.cell? ⟨gr, i * 8 + 3, none⟩ = some (.int .i64 x.kind) := (cell_blk hbr _).trans (hcr 3 _ rfl)
      have r4 : wr.cell? ⟨gr, i * 8 + 4, none⟩ = some (.int .i64 x.tc) := (cell_blk hbr _).trans (hcr 4 _ rfl)
      have r5 : wr.cell? ⟨gr, i * 8 + 5, none⟩ = some (.int .i64 x.tk) := (cell_blk hbr _).trans (hcr 5 _ rfl)
      have r6 : wr.cell? ⟨gr, i * 8 + 6, none⟩ = some (.int .i64 x.r) := (cell_blk hbr _).trans (hcr 6 _ rfl)
      have r7 : wr.cell? ⟨gr, i * 8 + 7, none⟩ = some vx := (cell_blk hbr _).trans (hcr 7 _ rfl)
      have HW := hide (writeOpN x n h8 hxo vx wr (hclk.grown (grown_trans g1 (grown_trans g2 hG))))
      obtain ⟨y, hy⟩ : ∃ y, x.bytes n = y := ⟨_, rfl⟩
      obtain ⟨m', em⟩ : ∃ k, m ++ y = k := ⟨_, rfl⟩
      have hbl := bytes_lenN h8 hxo
      rw [hy] at HW hbl
      have a2 := sadd' em (by omega)
      have EM : Hid (m' = m1 ++ (l.take (i + 1)).flatMap (OpR.bytes n)) := by
        show m' = m1 ++ (l.take (i + 1)).flatMap (OpR.bytes n)
        rw [flat_take_op n l i x hx, ← em, hm.out, hy, List.append_assoc]
      clear hy em hbl hrow hcr hml htl hml2 hclk
      go_wp2_with fail
      refine HW.out.mono ?_
      rintro e w3 ⟨rfl, g3⟩
      go_wp2_with fail
      go_roundg (l.length - (i + 1))
      case measure => omega
      case rel => exact ⟨i + 1, m', by go_num, by omega, rfl, rfl, EM, grown_trans hG g3⟩
    · obtain rfl : i = l.length := by omega
      rw [List.take_length] at hm
      have hS := hide (sumR m (by omega) wr)
      obtain ⟨m3, e3⟩ : ∃ k, m ++ sum4 m = k := ⟨_, rfl⟩
      have a3 := sadd' e3 (by simp [sum4]; omega)
      have E3 : Hid (batch n l = m3) := by
        show batch n l = m3
        have e4 : 66 :: (vb l.length ++ l.flatMap (OpR.bytes n)) = m := by rw [hm.out, E1.out]; rfl
        unfold batch
        rw [e4, ← e3]; rfl
      generalize sum4 m = v4 at a3 hS
      clear e3
      go_wp2_with fail
      refine hS.out.mono ?_
      rintro e w3 ⟨rfl, g3⟩
      go_wp2_with fail
      go_ret
      rw [E3.out]
      exact ⟨rfl, grown_trans g1 (grown_trans g2 (grown_trans hG g3))⟩

theorem writeBatR (n : Nat) (h8 : n ≤ 8) (l : List OpR) (hl : l.length ≤ 1000) (hok : ∀ x ∈ l, OpOk n x) (vk vo : Value) (w : World) (ho : OpsRow n vo l w) :
    Calls Tryz.prog 42 #[.agg #[.int .i64 0, vk, vo]] w fun e w' => e = .returned (str (batch n l)) ∧ w.grownBy w' none := writeBatN n h8 l (by omega) (fun x hx => (hok x hx).nn h8) vk vo w ho

end Go.Proofs.YtachmkhbbbmioaaGreat
