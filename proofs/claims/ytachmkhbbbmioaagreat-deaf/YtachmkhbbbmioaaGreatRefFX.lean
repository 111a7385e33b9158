import Derived.Test.YtachmkhbbbmioaaGreatRefEX
import Derived.Deep.RegionLaw
import Derived.Deep.CutBlock
namespace Go.Proofs.YtachmkhbbbmioaaGreat
open Go.RowKit Go.Shelf
attribute [local go_sem ↓] Go.wp_at_zero Go.wp_at_succ

theorem infoOp : (Tryz.prog.info? 88).map (fun i => (i.zero, i.size, i.bytes)) = some (some (.agg #[.int .i64 0, .int .i64 0, .int .i64 0, .int .i64 0, .int .i64 0, .int .i64 0, .int .i64 0, .slice none 0 0]), 8, 80) := by kernel_rfl

theorem grown_pre {w3 w5 : World} {o : Obj} {row : Option Nat} (h : (w3.alloc o).drew.grownBy w5 row) : w3.grownBy w5 row :=
  ⟨h.os, h.tape, h.output, by have := h.size; simp [heap_drew] at this; omega, fun k hk e => (h.block k (by simp [heap_drew]; omega) e).trans (Below.heap_alloc _ _ _ hk)⟩

/-- The log has grown by one. -/
theorem RefAt.grewLog {yb : Nat} {S : CS} {vc vl vw vL : Value} {log wt : List (List Value)} {w3 w5 : World} {gg cap : Nat} {x8 : List Value} (h : RefAt yb S vc vl vw vL log wt w3) (hx : x8.length = 8)
    (hown : w5.ownsRow 0 88 8 (.slice (some ⟨gg, 0, none⟩) (log.length + 1) cap) (log.length + 1) (log.flatten ++ x8)) (hg : w3.grownBy w5 vl.ownBlock) (hat : vl.ownBlock = some gg ∨ w3.heap.size ≤ gg) :
    RefAt yb S vc (.slice (some ⟨gg, 0, none⟩) (log.length + 1) cap) vw vL (log ++ [x8]) wt (w5.setCell ⟨yb, 4, none⟩ (.slice (some ⟨gg, 0, none⟩) (log.length + 1) cap)) := by
  have e : ∀ k, k < w3.heap.size → vl.ownBlock ≠ some k → w5.heap[k]? = w3.heap[k]? := fun k hk hn => hg.block k hk (Ne.symm hn)
  have hl : RowAt 88 8 (.slice (some ⟨gg, 0, none⟩) (log.length + 1) cap) (log ++ [x8]) w5 := by
    refine ⟨?_, fun y hy => ?_⟩
    · simpa using hown
    · rcases List.mem_append.1 hy with hy | hy
      · exact h.lg.2 y hy
      · simp at hy; rw [hy]; exact hx
  have hc := (e yb (lt_of_heap h.cp) (h.lg.neBlk h.cp (by decide))).trans h.cp
  have h1 := h.ck.kept (w' := w5) (fun g hg => e g (h.ck.lt hg) (h.ck.ne h.lg (by decide) hg))
  have h3 := h.wt.kept (w' := w5) (fun g hg => e g (h.wt.lt hg) (fun q => h.ap g q hg))
  have h4 := h.ln.kept (w' := w5) (fun g hg => e g (h.ln.lt hg) (h.ln.ne h.lg (by decide) hg))
  have e' : ∀ k, k ≠ yb → (w5.setCell ⟨yb, 4, none⟩ (.slice (some ⟨gg, 0, none⟩) (log.length + 1) cap)).heap[k]? = w5.heap[k]? := fun k hk => Below.heap_setCell _ _ _ _ hk
  refine ⟨(set_blk hc).trans rfl, h1.kept (fun g hg => e' g (fun q => h1.neBlk hc (by decide) (q ▸ hg))), hl.kept (fun g hg => e' g (fun q => hl.neBlk hc (by decide) (q ▸ hg))), h3.kept (fun g hg => e' g (fun q => h3.neBlk hc (by decide) (q ▸ hg))),
    h4.kept (fun g hg => e' g (fun q => h4.neBlk hc (by decide) (q ▸ hg))), fun g hg q => ?_⟩
  cases hg
  rcases hat with hat | hat
  · exact h.ap _ hat q
  · have : gg < w3.heap.size := h.wt.lt q
    omega

set_option maxRecDepth 100000 in
set_option maxHeartbeats 4000000 in
theorem ref_apply (yb : Nat) (S : CS) (vc vl vw vL : Value) (log wt : List (List Value)) (o : Nat) (num c kind tc tk rr : Int) (va : Option Addr) (vn vp : Nat) (w : World) (h : RefAt yb S vc vl vw vL log wt w) (ho1 : 1 ≤ o) (hon : o ≤ S.n) (h8 : S.n ≤ 8)
    (hcl : 0 ≤ S.cl (o - 1) ∧ S.cl (o - 1) ≤ 1000000) (hlen : S.L.length ≤ 100000) (hlog : log.length ≤ 100000) (L' : List El)
    (hcase : (kind = 1 ∧ ∃ A x R, S.L = A ++ x :: R ∧ findI tc tk S.L 0 = (A.length : Int) ∧ L' = A ++ gone x :: R) ∨
      (kind = 0 ∧ ∃ (A R : List El) (e : El), S.L = A ++ R ∧ findI tc tk S.L 0 = (A.length : Int) - 1 ∧ e.c = c ∧ e.k = (o : Int) ∧ e.r = rr ∧ e.d = false ∧ L' = A ++ behind e R)) :
    Calls Tryz.prog 102 #[.pointer (some ⟨yb, 0, none⟩), .agg #[.int .i64 o, .int .i64 num, .int .i64 c, .int .i64 kind, .int .i64 tc, .int .i64 tk, .int .i64 rr, .slice va vn vp]] w fun e w' => e = .returned (.tuple #[]) ∧
      ∃ vl' vL', RefAt yb { S with cl := bump S.cl (o - 1), g := max S.g c, L := L' } vc vl' vw vL' (log ++ [[.int .i64 o, .int .i64 num, .int .i64 c, .int .i64 kind, .int .i64 tc, .int .i64 tk, .int .i64 rr, .slice va vn vp]]) wt w' ∧
        Fr (refOwn yb vc vl vw vL) w w' ∧ (∀ g, vl'.ownBlock = some g → vl.ownBlock = some g ∨ w.heap.size ≤ g) ∧ (∀ g, vL'.ownBlock = some g → vL.ownBlock = some g ∨ w.heap.size ≤ g) := by
  obtain ⟨q, rfl⟩ : ∃ q : Nat, o = q + 1 := ⟨o - 1, by omega⟩
  simp only [Nat.add_sub_cancel] at hcl ⊢
  have eo : ((q + 1 : Nat) : Int) = (q : Int) + 1 := by omega
  rw [eo] at hcase ⊢
  obtain ⟨g, cap, cur, rfl, hcap, -, -⟩ := h.clock (i := q) (by omega)
  have hlt := h.lt
  have g1 := grown_alloc (grown_refl w) (.cells #[.int .i64 ((q : Int) + 1), .int .i64 num, .int .i64 c, .int .i64 kind, .int .i64 tc, .int .i64 tk, .int .i64 rr, .slice va vn vp] 88)
  have k1 : (w.alloc (.cells #[.int .i64 ((q : Int) + 1), .int .i64 num, .int .i64 c, .int .i64 kind, .int .i64 tc, .int .i64 tk, .int .i64 rr, .slice va vn vp] 88)).heap[w.heap.size]? = some (.cells #[.int .i64 ((q : Int) + 1), .int .i64 num, .int .i64 c, .int .i64 kind, .int .i64 tc, .int .i64 tk, .int .i64 rr, .slice va vn vp] 88) := by rw [heap_alloc_at]; simp
  have hF1 : Fr (refOwn yb (.slice (some ⟨g, 0, none⟩) S.n cap) vl vw vL) w (w.alloc (.cells #[.int .i64 ((q : Int) + 1), .int .i64 num, .int .i64 c, .int .i64 kind, .int .i64 tc, .int .i64 tk, .int .i64 rr, .slice va vn vp] 88)) := (Fr.refl _ w).alloc _
  go_enter Tryz.func102, Tryz.ntmps102
  go_wp2_with fail
  generalize (w.alloc (.cells #[.int .i64 ((q : Int) + 1), .int .i64 num, .int .i64 c, .int .i64 kind, .int .i64 tc, .int .i64 tk, .int .i64 rr, .slice va vn vp] 88)) = w1 at g1 k1 hF1 ⊢
  have hr1 := h.grown g1
  have hyb : yb < w.heap.size := lt_of_heap h.cp
  have hgb : g < w.heap.size := h.ck.lt rfl
  have nyg : yb ≠ g := fun q => h.ck.neBlk h.cp (by decide) (q ▸ rfl)
  -- the clock
  obtain ⟨g', cap', cur, hv, -, hb1, hc1⟩ := hr1.clock (i := q) (by omega)
  simp only [Value.slice.injEq, Option.some.injEq, Addr.mk.injEq, and_true, true_and] at hv
  obtain ⟨rfl, rfl⟩ := hv
  have c0 : w1.cell? ⟨w.heap.size, 0, none⟩ = some (.int .i64 ((q : Int) + 1)) := cell_blk k1 0
  have c2 : w1.cell? ⟨yb, 2, none⟩ = some (.slice (some ⟨g, 0, none⟩) S.n cap) := cell_blk hr1.cp 2
  have c4 : w1.cell? ⟨g, q, none⟩ = some (.int .i64 (S.cl q)) := (cell_blk hb1 _).trans hc1
  have f4 : w1.frozen? ⟨g, q, none⟩ = false := frozen_blk hb1 q
  have hq0 : (0 : Int) ≤ (q : Int) := by omega
  have hqi : (q : Int) < (S.n : Int) := by omega
  have hw1 : IntKind.i64.wrap ((q : Int) + 1 - 1) = (q : Int) := by rw [IntKind.wrap_i64]; omega
  have hw3 : IntKind.i64.wrap (S.cl q + 1) = S.cl q + 1 := by rw [IntKind.wrap_i64]; omega
  go_region
  go_wp2_with fail
  have hF2 : Fr (refOwn yb (.slice (some ⟨g, 0, none⟩) S.n cap) vl vw vL) w (w1.setCell ⟨g, q, none⟩ (.int .i64 (S.cl q + 1))).drew := (hF1.setCell (p := ⟨g, q, none⟩) (.inl (by simp [refOwn, Value.ownBlock])) _).drew
  have hr2 : RefAt yb { S with cl := bump S.cl q } (.slice (some ⟨g, 0, none⟩) S.n cap) vl vw vL log wt (w1.setCell ⟨g, q, none⟩ (.int .i64 (S.cl q + 1))).drew := (hr1.bumped (by omega)).kept (fun _ _ => rfl)
  have k2 : (w1.setCell ⟨g, q, none⟩ (.int .i64 (S.cl q + 1))).drew.heap[w.heap.size]? = some (.cells #[.int .i64 ((q : Int) + 1), .int .i64 num, .int .i64 c, .int .i64 kind, .int .i64 tc, .int .i64 tk, .int .i64 rr, .slice va vn vp] 88) := by
    rw [heap_drew, Below.heap_setCell _ _ _ _ (by simp; omega)]; exact k1
  generalize (w1.setCell ⟨g, q, none⟩ (.int .i64 (S.cl q + 1))).drew = w2 at hF2 hr2 k2 ⊢
  clear c0 c2 c4 f4 hq0 hw1 hw3 hr1 k1 hF1 g1 hb1 hc1
  -- the greatest counter
  have c2 : w2.cell? ⟨w.heap.size, 2, none⟩ = some (.int .i64 c) := cell_blk k2 2
  have c3 : w2.cell? ⟨yb, 3, none⟩ = some (.int .i64 S.g) := cell_blk hr2.cp 3
  have f3 : w2.frozen? ⟨yb, 3, none⟩ = false := frozen_blk hr2.cp 3
  have hmx : ∀ w, (Builtin.max_ #[3, 3] 3 #[.int .i64 S.g, .int .i64 c]).run Tryz.prog w = .ok (.int .i64 (max S.g c)) w := fun w => by
    rw [run_max_int2]
    have : (if c > S.g then c else S.g) = max S.g c := by split <;> omega
    rw [this]
  go_region
  go_wp2_with fail
  have hF3 : Fr (refOwn yb (.slice (some ⟨g, 0, none⟩) S.n cap) vl vw vL) w (w2.setCell ⟨yb, 3, none⟩ (.int .i64 (max S.g c))).drew := (hF2.setCell (p := ⟨yb, 3, none⟩) (.inl (by simp [refOwn])) _).drew
  have hr3 : RefAt yb { S with cl := bump S.cl q, g := max S.g c } (.slice (some ⟨g, 0, none⟩) S.n cap) vl vw vL log wt (w2.setCell ⟨yb, 3, none⟩ (.int .i64 (max S.g c))).drew := (hr2.most (max S.g c)).kept (fun _ _ => rfl)
  have k3 : (w2.setCell ⟨yb, 3, none⟩ (.int .i64 (max S.g c))).drew.heap[w.heap.size]? = some (.cells #[.int .i64 ((q : Int) + 1), .int .i64 num, .int .i64 c, .int .i64 kind, .int .i64 tc, .int .i64 tk, .int .i64 rr, .slice va vn vp] 88) := by
    rw [heap_drew, Below.heap_setCell _ _ _ _ (by simp; omega)]; exact k2
  generalize (w2.setCell ⟨yb, 3, none⟩ (.int .i64 (max S.g c))).drew = w3 at hF3 hr3 k3 ⊢
  clear c2 c3 f3 hmx hr2 k2 hF2
  -- the log
  obtain ⟨i0, hi0, hz0, hz1, hz2⟩ := info_parts infoOp
  have c4 : w3.cell? ⟨yb, 4, none⟩ = some vl := cell_blk hr3.cp 4
  have d0 : w3.cell? ⟨w.heap.size, 0, none⟩ = some (.int .i64 ((q : Int) + 1)) := cell_blk k3 0
  have d1 : w3.cell? ⟨w.heap.size, 1, none⟩ = some (.int .i64 num) := cell_blk k3 1
  have d2 : w3.cell? ⟨w.heap.size, 2, none⟩ = some (.int .i64 c) := cell_blk k3 2
  have d3 : w3.cell? ⟨w.heap.size, 3, none⟩ = some (.int .i64 kind) := cell_blk k3 3
  have d4 : w3.cell? ⟨w.heap.size, 4, none⟩ = some (.int .i64 tc) := cell_blk k3 4
  have d5 : w3.cell? ⟨w.heap.size, 5, none⟩ = some (.int .i64 tk) := cell_blk k3 5
  have d6 : w3.cell? ⟨w.heap.size, 6, none⟩ = some (.int .i64 rr) := cell_blk k3 6
  have d7 : w3.cell? ⟨w.heap.size, 7, none⟩ = some (.slice va vn vp) := cell_blk k3 7
  have ny3 : vl.ownBlock ≠ some yb := hr3.lg.neBlk hr3.cp (by decide)
  have hyb3 : yb < w3.heap.size := lt_of_heap hr3.cp
  have hs3 : w.heap.size ≤ w3.heap.size := hF3.size
  go_cut [29] (fun _ wx => ∃ vl', RefAt yb { S with cl := bump S.cl q, g := max S.g c } (.slice (some ⟨g, 0, none⟩) S.n cap) vl' vw vL (log ++ [[.int .i64 ((q : Int) + 1), .int .i64 num, .int .i64 c, .int .i64 kind, .int .i64 tc, .int .i64 tk, .int .i64 rr, .slice va vn vp]]) wt wx ∧ wx.heap[w.heap.size]? = some (.cells #[.int .i64 ((q : Int) + 1), .int .i64 num, .int .i64 c, .int .i64 kind, .int .i64 tc, .int .i64 tk, .int .i64 rr, .slice va vn vp] 88) ∧ Fr (refOwn yb (.slice (some ⟨g, 0, none⟩) S.n cap) vl vw vL) w wx ∧ (∀ g, vl'.ownBlock = some g → vl.ownBlock = some g ∨ w.heap.size ≤ g))
  case first =>
    go_region_law ((refine step_append_lies _ (by rfl) _ _ _ (by rfl) 0 88 i0 _ 8 80 Tryz.underlying41 hi0 hz0 hz1 hz2 rfl (by omega) vl log.length log.flatten (by rfl) ((hr3.lg.1.alloc _).drew) ⟨w3.heap.size, 0, none⟩ 1 1 [.int .i64 ((q : Int) + 1), .int .i64 num, .int .i64 c, .int .i64 kind, .int .i64 tc, .int .i64 tk, .int .i64 rr, .slice va vn vp] (by rfl) (by rfl) (World.news_of_block (cs := #[.int .i64 ((q : Int) + 1), .int .i64 num, .int .i64 c, .int .i64 kind, .int .i64 tc, .int .i64 tk, .int .i64 rr, .slice va vn vp]) (t := 88) (fr := (0, 0)) (heap_alloc_new w3 _)) (by simp [Value.oneCell']) (by omega) (by unfold maxLen; omega) (by omega) (by simp) (w3.heap.size + 1) (by simp) ?_; intro gg capL w5 hown1 hgrow hat hlt5; have y5 : w5.heap[yb]? = w3.heap[yb]? := (hgrow.block yb (by simp; omega) (Ne.symm ny3)).trans (Below.heap_alloc _ _ _ hyb3); have y4 : w5.cell? ⟨yb, 4, none⟩ = some vl := (World.cell?_of_block (a := ⟨yb, 4, none⟩) y5).trans c4; have f4 : w5.frozen? ⟨yb, 4, none⟩ = false := (World.frozen?_of_block (a := ⟨yb, 4, none⟩) y5).trans (frozen_blk hr3.cp 4)))
    all_goals (go_wp2_with fail; go_meet)
    all_goals go_light
    all_goals
      have hgr : w3.grownBy w5 vl.ownBlock := grown_pre hgrow
      have hat' : vl.ownBlock = some gg ∨ w3.heap.size ≤ gg := hat.imp id (fun q => by omega)
      have hv5 : w5.heap[w.heap.size]? = some (.cells #[.int .i64 ((q : Int) + 1), .int .i64 num, .int .i64 c, .int .i64 kind, .int .i64 tc, .int .i64 tk, .int .i64 rr, .slice va vn vp] 88) := (hgr.block _ (lt_of_heap k3) (fun q => by have := hlt w.heap.size (by simp [refOwn, ← q]); omega)).trans k3
      refine ⟨_, (hr3.grewLog (x8 := [.int .i64 ((q : Int) + 1), .int .i64 num, .int .i64 c, .int .i64 kind, .int .i64 tc, .int .i64 tk, .int .i64 rr, .slice va vn vp]) rfl hown1 hgr hat').kept (fun _ _ => rfl), ?_, ?_, ?_⟩
      · exact (Below.heap_setCell _ _ _ _ (by simp; omega)).trans hv5
      · exact ((hF3.grown hgr (fun k hk => .inl (by simp [refOwn, hk]))).setCell (p := ⟨yb, 4, none⟩) (.inl (by simp [refOwn])) _)
      · intro b hb
        simp only [Value.ownBlock, Option.some.injEq] at hb
        subst hb
        rcases hat with hat | hat
        · exact .inl hat
        · right; have := hF3.size; omega
  case rest =>
  obtain ⟨vl', hr4, k4, hF4, hvl⟩ := hcut
  clear hr3 k3 hF3 c4 d0 d1 d2 d3 d4 d5 d6 d7 ny3 hyb3 hs3
  -- where the target stands
  have e3 : wc.cell? ⟨w.heap.size, 3, none⟩ = some (.int .i64 kind) := cell_blk k4 3
  have e4 : wc.cell? ⟨w.heap.size, 4, none⟩ = some (.int .i64 tc) := cell_blk k4 4
  have e5 : wc.cell? ⟨w.heap.size, 5, none⟩ = some (.int .i64 tk) := cell_blk k4 5
  have hAt := ref_at yb _ _ vl' vw vL _ wt tc tk wc hr4 (by show S.L.length ≤ 1000000; omega)
  go_wp2_with fail
  refine hAt.mono ?_
  rintro e w6 ⟨rfl, hg6⟩
  have hr6 := hr4.grown hg6
  have hF6 := hF4.grown hg6 (by simp)
  have k6 := (hg6.block _ (lt_of_heap k4) (by simp)).trans k4
  clear hr4 hg6 k4 hF4 e3 e4 e5 hAt
  have e0 : w6.cell? ⟨w.heap.size, 0, none⟩ = some (.int .i64 ((q : Int) + 1)) := cell_blk k6 0
  have e2 : w6.cell? ⟨w.heap.size, 2, none⟩ = some (.int .i64 c) := cell_blk k6 2
  have e3 : w6.cell? ⟨w.heap.size, 3, none⟩ = some (.int .i64 kind) := cell_blk k6 3
  have hys6 : w.heap.size ≤ w6.heap.size := hF6.size
  rcases hcase with ⟨rfl, A, x, R, hL, hfi, rfl⟩ | ⟨rfl, A, R, e, hL, hfi, ec, ek, er, ed, rfl⟩
  · rw [show findI tc tk ({ S with cl := bump S.cl q, g := max S.g c } : CS).L 0 = (A.length : Int) from hfi]
    obtain ⟨gL, capL, cur, hvL, hcapL, hbL, hcL⟩ := hr6.ln.cell (i := A.length) (x := elCells x) (by show (S.L.map elCells)[A.length]? = _; rw [hL]; simp)
    have hlL : (({ S with cl := bump S.cl q, g := max S.g c } : CS).L.map elCells).length = S.L.length := by simp
    rw [hlL] at hvL hcapL
    subst hvL
    have hAl : (A.length : Int) < (S.L.length : Int) := by rw [hL]; simp; omega
    have c6 : w6.cell? ⟨yb, 6, none⟩ = some (.slice (some ⟨gL, 0, none⟩) S.L.length capL) := cell_blk hr6.cp 6
    have f6 : w6.frozen? ⟨gL, A.length * 4 + 3, none⟩ = false := frozen_blk hbL _
    have d6 : w6.cell? ⟨gL, A.length * 4 + 3, none⟩ = some (.bool x.d) := (cell_blk hbL _).trans (hcL 3 _ rfl)
    clear hfi hlL
    go_wp2_with fail
    refine bodyPost_ret (v := .tuple #[]) (by simp [results, Tryz.results102, go_sem]) rfl ⟨rfl, vl', _, hr6.struck hL, hF6.setCell (p := ⟨gL, A.length * 4 + 3, none⟩) (.inl (by simp [refOwn, Value.ownBlock])) _, hvl, fun g hg => .inl hg⟩
  · rw [show findI tc tk ({ S with cl := bump S.cl q, g := max S.g c } : CS).L 0 = (A.length : Int) - 1 from hfi]
    subst ec er
    have hAl : A.length ≤ S.L.length := by rw [hL]; simp
    have HL := hide hL
    clear hfi hL
    go_upto_block 0 with fail
    have g7 : w6.grownBy (w6.alloc (.cells #[.int .i64 e.c, .int .i64 ((q : Int) + 1)] 86)) none := grown_alloc (grown_refl _) _
    have b7 : (w6.alloc (.cells #[.int .i64 e.c, .int .i64 ((q : Int) + 1)] 86)).heap[w6.heap.size]? = some (.cells #[.int .i64 e.c, .int .i64 ((q : Int) + 1)] 86) := by rw [heap_alloc_at]; simp
    go_cut [6] (fun s6 wx => ∃ (m : Nat) (T R' : List El), R = T ++ R' ∧ behind e R = T ++ e :: R' ∧ s6 = .int .i64 ((m : Nat) : Int) ∧ m = A.length + T.length ∧ w6.grownBy wx none ∧ wx.heap[w6.heap.size]? = some (.cells #[.int .i64 e.c, .int .i64 ((q : Int) + 1)] 86))
    case first =>
      go_wp2_with fail
      go_loopg [6] R.length (fun g s6 wr => ∃ (m : Nat) (T R' : List El), R = T ++ R' ∧ behind e R = T ++ behind e R' ∧ s6 = .int .i64 ((m : Nat) : Int) ∧ m = A.length + T.length ∧ g = R'.length ∧ w6.grownBy wr none ∧ wr.heap[w6.heap.size]? = some (.cells #[.int .i64 e.c, .int .i64 ((q : Int) + 1)] 86))
      case atStart => exact ⟨A.length, [], R, rfl, rfl, rfl, by simp, rfl, g7, b7⟩
      case round =>
        obtain ⟨m, T, R', hTR, hbe, rfl, hm, hgk, hG, hb⟩ := hrel
        have hr := hr6.grown hG
        obtain ⟨aL, cL, hvL, hcL⟩ := hr.ln.value
        have hlL : (({ S with cl := bump S.cl q, g := max S.g e.c } : CS).L.map elCells).length = S.L.length := by simp
        rw [hlL] at hvL hcL
        have d6 : wr.cell? ⟨yb, 6, none⟩ = some vL := cell_blk hr.cp 6
        have e0 : wr.cell? ⟨w6.heap.size, 0, none⟩ = some (.int .i64 e.c) := cell_blk hb 0
        have e1 : wr.cell? ⟨w6.heap.size, 1, none⟩ = some (.int .i64 ((q : Int) + 1)) := cell_blk hb 1
        have hlS : S.L.length = A.length + (T.length + R'.length) := by rw [HL.out, hTR]; simp
        have gfin : ∀ n, w6.grownBy (wr.drewN n) none := fun n => hG.trans (grown_drewN _ _)
        cases R' with
        | nil =>
          subst hvL
          have hni : m = S.L.length := by rw [hlS, hm]; simp
          have HB := hide (⟨hTR, hbe, hm⟩ : R = T ++ [] ∧ behind e R = T ++ behind e [] ∧ m = A.length + T.length)
          clear hTR hbe hm hlS
          subst hni
          go_wp2_with fail
          go_quiet (fail)
          go_wp2_with fail
          go_meet
          exact ⟨_, T, [], HB.out.1, HB.out.2.1, rfl, HB.out.2.2, gfin _, hb⟩
        | cons y R' =>
          have hmS : (m : Int) < (S.L.length : Int) := by rw [hlS, hm]; simp; omega
          have hy : (S.L.map elCells)[m]? = some (elCells y) := by rw [HL.out, hTR, hm]; simp
          obtain ⟨gL, capL, cur, hv, -, hbl, hcell⟩ := hr.ln.cell (i := m) (x := elCells y) hy
          rw [hlL] at hv
          rw [hv] at hvL
          cases hvL
          have k0 : wr.cell? ⟨gL, m * 4, none⟩ = some (.int .i64 y.c) := (cell_blk hbl (m * 4)).trans (hcell 0 _ rfl)
          have k1 : wr.cell? ⟨gL, m * 4 + 1, none⟩ = some (.int .i64 y.k) := (cell_blk hbl (m * 4 + 1)).trans (hcell 1 _ rfl)
          rw [hv] at d6
          have hAb := fun w => aboveR y.c y.k e.c ((q : Int) + 1) w
          have hm0 : (0 : Int) ≤ (m : Int) := by omega
          have hm9 : m ≤ 1000000 := by omega
          have HB := hide (⟨hTR, hbe, hm⟩ : R = T ++ y :: R' ∧ behind e R = T ++ behind e (y :: R') ∧ m = A.length + T.length)
          clear hTR hbe hm hlS hy hcell
          by_cases hab : e.c < y.c ∨ (y.c = e.c ∧ (q : Int) + 1 < y.k)
          · simp only [hab, decide_true] at hAb
            have HA := hide hab
            clear hab
            go_wp2_with fail
            go_region_held3 (fun w' => w'.cell? ⟨yb, 6, none⟩ = some (.slice (some ⟨gL, 0, none⟩) S.L.length cL) ∧ w'.cell? ⟨gL, m * 4, none⟩ = some (.int .i64 y.c) ∧ w'.cell? ⟨gL, m * 4 + 1, none⟩ = some (.int .i64 y.k) ∧ w'.cell? ⟨w6.heap.size, 0, none⟩ = some (.int .i64 e.c) ∧ w'.cell? ⟨w6.heap.size, 1, none⟩ = some (.int .i64 ((q : Int) + 1)))
              (first | exact ⟨yk _ _ d6, yk _ _ k0, yk _ _ k1, yk _ _ e0, yk _ _ e1⟩ | go_keep)
              (first | (go_at_call 139; refine (hAb _).mono ?_; rintro e w8 ⟨rfl, hgl⟩; have yk : ∀ (a : Addr) (x : Value), wr.cell? a = some x → w8.cell? a = some x := (fun a x hx => (World.cell?_of_block (hgl.block _ (lt_cellW hx) (by simp))).trans hx)))
            go_wp2_with fail
            have hbx := (hgl.block _ (lt_of_heap hb) (by simp)).trans hb
            have hgx : w6.grownBy w8 none := grown_trans hG ⟨hgl.os, hgl.tape, hgl.output, hgl.size, hgl.block⟩
            go_roundg R'.length
            case measure => rw [hgk]; simp
            case rel => exact ⟨m + 1, T ++ [y], R', by rw [HB.out.1]; simp, by rw [HB.out.2.1, behind, if_pos (by show e.c < y.c ∨ (y.c = e.c ∧ e.k < y.k); rw [ek]; exact HA.out)]; simp, by go_num, by rw [HB.out.2.2]; simp; omega, rfl, hgx, hbx⟩
          · simp only [hab, decide_false] at hAb
            have HA := hide hab
            clear hab
            go_wp2_with fail
            go_region_held3 (fun w' => w'.cell? ⟨yb, 6, none⟩ = some (.slice (some ⟨gL, 0, none⟩) S.L.length cL) ∧ w'.cell? ⟨gL, m * 4, none⟩ = some (.int .i64 y.c) ∧ w'.cell? ⟨gL, m * 4 + 1, none⟩ = some (.int .i64 y.k) ∧ w'.cell? ⟨w6.heap.size, 0, none⟩ = some (.int .i64 e.c) ∧ w'.cell? ⟨w6.heap.size, 1, none⟩ = some (.int .i64 ((q : Int) + 1)))
              (first | exact ⟨yk _ _ d6, yk _ _ k0, yk _ _ k1, yk _ _ e0, yk _ _ e1⟩ | go_keep)
              (first | (go_at_call 139; refine (hAb _).mono ?_; rintro e w8 ⟨rfl, hgl⟩; have yk : ∀ (a : Addr) (x : Value), wr.cell? a = some x → w8.cell? a = some x := (fun a x hx => (World.cell?_of_block (hgl.block _ (lt_cellW hx) (by simp))).trans hx)))
            go_wp2_with fail
            have hbx := (hgl.block _ (lt_of_heap hb) (by simp)).trans hb
            have hgx : w6.grownBy w8 none := grown_trans hG ⟨hgl.os, hgl.tape, hgl.output, hgl.size, hgl.block⟩
            go_meet
            exact ⟨m, T, y :: R', HB.out.1, by rw [HB.out.2.1, behind, if_neg (by show ¬ (e.c < y.c ∨ (y.c = e.c ∧ e.k < y.k)); rw [ek]; exact HA.out)], rfl, HB.out.2.2, hgx, hbx⟩
    case rest =>
    obtain ⟨m, T, R', hTR, hbe, rfl, hm, hG, hb⟩ := hcut
    have hr7 := hr6.grown hG
    have hF7 := hF6.grown hG (by simp)
    have k7 := (hG.block _ (lt_of_heap k6) (by simp)).trans k6
    have hLL : (({ S with cl := bump S.cl q, g := max S.g e.c } : CS).L.map elCells) = S.L.map elCells := rfl
    have hlS : S.L = (A ++ T) ++ R' := by rw [HL.out, hTR]; simp
    have htk : S.L.take m = A ++ T := by rw [hlS, hm]; exact List.take_left' (by simp)
    have hdr : S.L.drop m = R' := by rw [hlS, hm]; exact List.drop_left' (by simp)
    have hmS : m ≤ S.L.length := by rw [hlS, hm]; simp
    have hs7 : w.heap.size ≤ wc.heap.size := hF7.size
    have hs67 : w6.heap.size ≤ wc.heap.size := hG.size
    have hL7 := hr7.ln
    rw [hLL] at hL7
    obtain ⟨u1, hs1, hsrc1⟩ := hL7.lo (t := 116) (by kernel_rfl) (fun w => by kernel_rfl) m (by simpa using hmS)
    obtain ⟨u2, hs2, hsrc2⟩ := hL7.hi (t := 116) (by kernel_rfl) (fun w => by kernel_rfl) m (by simpa using hmS)
    have hq1 := hsrc1 wc (fun _ _ => rfl)
    rw [← List.map_take, htk] at hq1
    have c6 : wc.cell? ⟨yb, 6, none⟩ = some vL := cell_blk hr7.cp 6
    have hnil := row_nil 130 4 wc
    have hAT : (A ++ T).length ≤ 100000 := by rw [← htk]; simp; omega
    have hR1 : R'.length ≤ 100000 := by rw [← hdr]; simp; omega
    have HH := hide (⟨hTR, hbe, hm, hlS, htk, hdr⟩ : R = T ++ R' ∧ behind e R = T ++ e :: R' ∧ m = A.length + T.length ∧ S.L = (A ++ T) ++ R' ∧ S.L.take m = A ++ T ∧ S.L.drop m = R')
    clear hTR hbe hm hlS htk hdr hsrc1 e0 e2 e3
    go_upto_region 13 with (at_builtin; refine wpList_row Tryz.underlying116 infoElem rfl (by decide) rfl _ _ rfl (.slice none 0 0) [] rfl hnil u1 _ rfl hq1 (el_len _) (el_one _) (by unfold maxLen; simp at hAT ⊢; omega) (by simp at hAT ⊢; omega) ?_; intro v1 w8 hR8 hg8 hat8)
    have hv1 : ∀ b, v1.ownBlock = some b → wc.heap.size ≤ b := by
      intro b hb
      rcases hat8 with q | q
      · rw [q] at hb; cases hb
      · rw [q] at hb; cases hb; exact Nat.le_refl _
    rw [List.nil_append] at hR8
    have hF8 := hF7.grown hg8 (by simp [Value.ownBlock])
    have K8 : ∀ k, k < wc.heap.size → w8.heap[k]? = wc.heap[k]? := fun k hk => hg8.block k hk (by simp [Value.ownBlock])
    have hs8 : wc.heap.size ≤ w8.heap.size := hg8.size
    have kb8 := (K8 _ (lt_of_heap hb)).trans hb
    have ko8 := (K8 _ (lt_of_heap k7)).trans k7
    have m0 : w8.cell? ⟨w6.heap.size, 0, none⟩ = some (.int .i64 e.c) := cell_blk kb8 0
    have m1 : w8.cell? ⟨w6.heap.size, 1, none⟩ = some (.int .i64 ((q : Int) + 1)) := cell_blk kb8 1
    have m6 : w8.cell? ⟨w.heap.size, 6, none⟩ = some (.int .i64 e.r) := cell_blk ko8 6
    have g8a : w8.grownBy (w8.alloc (.cells #[.int .i64 e.c, .int .i64 ((q : Int) + 1), .int .i64 e.r, .bool false] 130)) none := grown_alloc (grown_refl _) _
    have hS8 : SrcAt (w8.alloc (.cells #[.int .i64 e.c, .int .i64 ((q : Int) + 1), .int .i64 e.r, .bool false] 130)) (.slice (some ⟨w8.heap.size, 0, none⟩) 1 1) ([e].map elCells) := by
      have := src_new w8 (elCells e) 130
      unfold elCells at this
      rw [ek, ed] at this
      simpa [elCells, ek, ed] using this
    have hR8a := hR8.grown g8a
    have hF8a := hF8.grown g8a (by simp)
    clear hg8 hat8 hq1 hnil c6 hR8
    go_upto_region 14 with (at_builtin; refine wpList_row Tryz.underlying116 infoElem rfl (by decide) rfl _ _ rfl v1 _ rfl hR8a _ _ rfl hS8 (el_len _) (el_one _) (by unfold maxLen; simp at hAT ⊢; omega) (by simp at hAT ⊢; omega) ?_; intro v2 w9 hR9 hg9 hat9)
    have hv2 : ∀ b, v2.ownBlock = some b → wc.heap.size ≤ b := by
      intro b hb
      rcases hat9 with q | q
      · exact hv1 b (q ▸ hb)
      · rw [q] at hb; cases hb; simp only [World.size_alloc]; omega
    have K9 : ∀ k, k < wc.heap.size → w9.heap[k]? = wc.heap[k]? := fun k hk => by
      rw [hg9.block k (by simp only [World.size_alloc]; omega) (fun q => by have := hv1 k q.symm; omega), Below.heap_alloc _ _ _ (by omega)]
      exact K8 k hk
    have hF9 := hF8a.grown hg9 (fun k hk => .inr (by have := hv1 k hk; omega))
    have hr9 := hr7.kept (w' := w9) (fun k hk => K9 k (hr7.lt k hk))
    have c6 : w9.cell? ⟨yb, 6, none⟩ = some vL := cell_blk hr9.cp 6
    have hq2 := hsrc2 w9 (fun g hg => K9 g (hL7.lt hg))
    rw [← List.map_drop, HH.out.2.2.2.2.2] at hq2
    clear hg9 hat9 hS8 hR8a hF8a g8a m0 m1 m6 hs1
    have hs9 : wc.heap.size ≤ w9.heap.size := by
      by_cases q : wc.heap.size ≤ w9.heap.size
      · exact q
      · have hx := K9 w9.heap.size (by omega)
        rw [Array.getElem?_eq_none (Nat.le_refl _)] at hx
        rw [Array.getElem?_eq_getElem (by omega)] at hx
        cases hx
    have fin10 : ∀ (w10 : World), w9.grownBy w10 v2.ownBlock → (∀ k, k < wc.heap.size → w10.heap[k]? = wc.heap[k]?) ∧ w10.cell? ⟨yb, 6, none⟩ = some vL ∧ w10.frozen? ⟨yb, 6, none⟩ = false := by
      intro w10 hg10
      have K10 : ∀ k, k < wc.heap.size → w10.heap[k]? = wc.heap[k]? := fun k hk => (hg10.block k (by omega) (fun q => by have := hv2 k q.symm; omega)).trans (K9 k hk)
      have hy := (K10 yb (lt_of_heap hr7.cp)).trans hr7.cp
      exact ⟨K10, cell_blk hy 6, frozen_blk hy 6⟩
    have F10 := hide fin10
    clear fin10
    go_wp2_with (at_builtin; refine wpList_row Tryz.underlying116 infoElem rfl (by decide) rfl _ _ rfl v2 _ rfl hR9 u2 _ rfl hq2 (el_len _) (el_one _) (by unfold maxLen; simp at hAT ⊢; omega) (by simp at hAT ⊢; omega) ?_; intro v3 w10 hR10 hg10 hat10; obtain ⟨K10, y6, f6⟩ := F10.out w10 hg10; obtain ⟨a3, c3, hv3, -⟩ := hR10.value; generalize hn3 : (((A ++ T).map elCells ++ [e].map elCells) ++ R'.map elCells).length = n3 at hv3; clear hn3; subst hv3)
    go_end0
    have hF10 := hF9.grown hg10 (fun k hk => .inr (by have := hv2 k hk; omega))
    have hr10 := hr7.kept (w' := w10) (fun k hk => K10 k (hr7.lt k hk))
    have hfin : RowAt 130 4 (.slice a3 n3 c3) ((A ++ behind e R).map elCells) w10 := by
      rw [HH.out.2.1]
      simpa using hR10
    refine ⟨rfl, vl', .slice a3 n3 c3, hr10.lined hfin, hF10.setCell (p := ⟨yb, 6, none⟩) (.inl (by simp [refOwn])) _, hvl, fun b hb => .inr ?_⟩
    rcases hat10 with q | q
    · have := hv2 b (q ▸ hb); omega
    · rw [q] at hb; cases hb; omega

end Go.Proofs.YtachmkhbbbmioaaGreat

namespace Go.Proofs.YtachmkhbbbmioaaGreat
open Go.RowKit Go.Shelf

theorem findI_skip (c k : Int) : ∀ (B L : List El) (i : Nat), (∀ y ∈ B, ¬ (y.c = c ∧ y.k = k)) → findI c k (B ++ L) i = findI c k L (i + B.length)
  | [], L, i, _ => by simp
  | y :: B, L, i, h => by
    rw [List.cons_append, findI, if_neg (h y (by simp)), findI_skip c k B L (i + 1) (fun z hz => h z (by simp [hz])), List.length_cons]
    congr 1
    omega

theorem findI_none (c k : Int) (L : List El) (i : Nat) (h : ∀ y ∈ L, ¬ (y.c = c ∧ y.k = k)) : findI c k L i = -1 := by
  have := findI_skip c k L [] i h
  rw [List.append_nil] at this
  rw [this]; rfl

abbrev Apart (L : List El) : Prop := L.Pairwise (fun x y => ¬ (x.c = y.c ∧ x.k = y.k))

theorem findI_mid {A R : List El} {x : El} (h : Apart (A ++ x :: R)) : findI x.c x.k (A ++ x :: R) 0 = (A.length : Int) := by
  rw [findI_skip _ _ A _ _ (apart_mem h).1, findI, if_pos ⟨rfl, rfl⟩]
  simp

theorem findI_last {A R : List El} (h : Apart (A ++ R)) (h0 : ∀ x ∈ A ++ R, 0 < x.c) : findI (lc A) (lk A) (A ++ R) 0 = (A.length : Int) - 1 := by
  rcases snoc_cases A with rfl | ⟨B, x, rfl⟩
  · rw [findI_none _ _ _ _ (fun y hy q => by have := h0 y hy; have := q.1; simp only [lc] at this; omega)]
    simp
  · obtain ⟨e1, e2, -, -⟩ := last_snoc B x
    rw [e1, e2]
    rw [List.append_assoc, List.singleton_append] at h ⊢
    rw [findI_mid h]
    simp

/-- The blocks that the copy has behind a call are those that it had, or new. -/
def OwnFrom (own own' : List Nat) (n : Nat) : Prop := ∀ k ∈ own', k ∈ own ∨ n ≤ k

theorem refOwn_from {yb : Nat} {vc vl vw vL vl' vL' : Value} {n : Nat} (h1 : ∀ g, vl'.ownBlock = some g → vl.ownBlock = some g ∨ n ≤ g) (h2 : ∀ g, vL'.ownBlock = some g → vL.ownBlock = some g ∨ n ≤ g) : OwnFrom (refOwn yb vc vl vw vL) (refOwn yb vc vl' vw vL') n := by
  intro k hk
  simp only [refOwn, List.mem_cons, List.mem_append, Option.mem_toList] at hk ⊢
  rcases hk with rfl | hk | hk | hk | hk
  · exact .inl (.inl rfl)
  · exact .inl (.inr (.inl hk))
  · exact (h1 k hk).imp (fun q => .inr (.inr (.inl q))) id
  · exact .inl (.inr (.inr (.inr (.inl hk))))
  · exact (h2 k hk).imp (fun q => .inr (.inr (.inr (.inr q)))) id

set_option maxRecDepth 100000 in
set_option maxHeartbeats 1000000 in
theorem ref_ins_place (yb : Nat) (S : CS) (vc vl vw vL : Value) (log wt : List (List Value)) (p r : Int) (w : World) (h : RefAt yb S vc vl vw vL log wt w) (hlen : S.L.length ≤ 100000) (hp : p < 0 ∨ (vis S.L).length < p) :
    Calls Tryz.prog 91 #[.pointer (some ⟨yb, 0, none⟩), .int .i64 p, .int .i64 r] w fun e w' => e = .returned (.int .i64 3) ∧ Below w.heap.size w w' := by
  have hT := ref_there yb S vc vl vw vL log wt w h (by omega)
  by_cases h0 : p < 0
  · go_enter Tryz.func91, Tryz.ntmps91
    go_wp2_with fail
    refine hT.mono ?_
    rintro e w1 ⟨v, rfl, hR, hf, hB⟩
    go_wp2_with fail
    go_ret
    exact ⟨rfl, hB⟩
  · have h1 : ((vis S.L).length : Int) < p := by omega
    go_enter Tryz.func91, Tryz.ntmps91
    go_wp2_with fail
    refine hT.mono ?_
    rintro e w1 ⟨v, rfl, hR, hf, hB⟩
    obtain ⟨a, c, rfl, hc⟩ := hR.value
    rw [List.length_map] at hc ⊢
    go_wp2_with fail
    go_ret
    exact ⟨rfl, hB⟩

set_option maxRecDepth 100000 in
set_option maxHeartbeats 1000000 in
theorem ref_ins_rune (yb : Nat) (S : CS) (vc vl vw vL : Value) (log wt : List (List Value)) (p r : Int) (w : World) (h : RefAt yb S vc vl vw vL log wt w) (hlen : S.L.length ≤ 100000) (hp0 : 0 ≤ p) (hp : p ≤ (vis S.L).length) (hr : Lib.validRune r = false) :
    Calls Tryz.prog 91 #[.pointer (some ⟨yb, 0, none⟩), .int .i64 p, .int .i64 r] w fun e w' => e = .returned (.int .i64 4) ∧ Below w.heap.size w w' := by
  have hT := ref_there yb S vc vl vw vL log wt w h (by omega)
  have hSc := fun w => scalarR r w
  rw [hr] at hSc
  clear hr
  go_enter Tryz.func91, Tryz.ntmps91
  go_wp2_with fail
  refine hT.mono ?_
  rintro e w1 ⟨v, rfl, hR, hf, hB⟩
  obtain ⟨a, c, rfl, hc⟩ := hR.value
  rw [List.length_map] at hc ⊢
  go_wp2_with (go_at_call 135; refine (hSc _).mono ?_; rintro e w' ⟨rfl, hw⟩; rw [hw]; clear hw w')
  go_ret
  exact ⟨rfl, hB⟩

set_option maxRecDepth 100000 in
set_option maxHeartbeats 1000000 in
theorem ref_ins_full (yb : Nat) (S : CS) (hG : Good S) (vc vl vw vL : Value) (log wt : List (List Value)) (p r : Int) (w : World) (h : RefAt yb S vc vl vw vL log wt w) (hlen : S.L.length ≤ 100000) (hp0 : 0 ≤ p) (hp : p ≤ (vis S.L).length) (hr : Lib.validRune r = true)
    (hfu : decide (100 ≤ S.cl (S.s - 1) ∨ 1099511627776 ≤ S.g) = true) :
    Calls Tryz.prog 91 #[.pointer (some ⟨yb, 0, none⟩), .int .i64 p, .int .i64 r] w fun e w' => e = .returned (.int .i64 5) ∧ Below w.heap.size w w' := by
  have hT := ref_there yb S vc vl vw vL log wt w h (by omega)
  have hSc := fun w => scalarR r w
  rw [hr] at hSc
  have hFu := fun (w' : World) (hw : Below w.heap.size w w') => ref_full yb S vc vl vw vL log wt w' (h.below hw) hG.s1 hG.sn hG.n8
  rw [hfu] at hFu
  clear hr hfu
  go_enter Tryz.func91, Tryz.ntmps91
  go_wp2_with fail
  refine hT.mono ?_
  rintro e w1 ⟨v, rfl, hR, hf, hB⟩
  obtain ⟨a, c, rfl, hc⟩ := hR.value
  rw [List.length_map] at hc ⊢
  go_wp2_with (first | (go_at_call 135; refine (hSc _).mono ?_; rintro e w' ⟨rfl, hw⟩; rw [hw]; clear hw w') | (go_at_call 136; refine (hFu _ hB).mono ?_; rintro e w2 ⟨rfl, hg2⟩))
  go_ret
  exact ⟨rfl, hB.grown hg2 hB.size (by simp)⟩

end Go.Proofs.YtachmkhbbbmioaaGreat

namespace Go.Proofs.YtachmkhbbbmioaaGreat
open Go.RowKit Go.Shelf

/-- The cells of the document's operation; its clock is a list of its own. -/
def opCells (x : OpR) (vk : Value) : List Value := [.int .i64 x.o, .int .i64 x.num, .int .i64 x.c, .int .i64 x.kind, .int .i64 x.tc, .int .i64 x.tk, .int .i64 x.r, vk]

structure NewClk (S : CS) (vk : Value) (n : Nat) (w : World) : Prop where
  row : RowAt 3 1 vk (ckRow S) w
  new : ∀ g, vk.ownBlock = some g → n ≤ g

theorem NewClk.mono {S : CS} {vk : Value} {n m : Nat} {w : World} (h : NewClk S vk n w) (hm : m ≤ n) : NewClk S vk m w := ⟨h.row, fun g hg => Nat.le_trans hm (h.new g hg)⟩

set_option maxRecDepth 100000 in
set_option maxHeartbeats 2000000 in
/-- The write itself: an operation of this copy, applied. -/
theorem ref_write (yb : Nat) (S : CS) (hG : Good S) (vc vl vw vL : Value) (log wt : List (List Value)) (kind tc tk rr : Int) (w : World) (h : RefAt yb S vc vl vw vL log wt w) (hlen : S.L.length ≤ 100000) (hlog : log.length ≤ 100000) (L' : List El)
    (hcase : (kind = 1 ∧ ∃ A x R, S.L = A ++ x :: R ∧ findI tc tk S.L 0 = (A.length : Int) ∧ L' = A ++ gone x :: R) ∨
      (kind = 0 ∧ ∃ (A R : List El) (e : El), S.L = A ++ R ∧ findI tc tk S.L 0 = (A.length : Int) - 1 ∧ e.c = S.g + 1 ∧ e.k = (S.s : Int) ∧ e.r = rr ∧ e.d = false ∧ L' = A ++ behind e R)) :
    Calls Tryz.prog 137 #[.pointer (some ⟨yb, 0, none⟩), .int .i64 kind, .agg #[.int .i64 tc, .int .i64 tk], .int .i64 rr] w fun e1 w1 => ∃ v, e1 = .returned v ∧ Calls Tryz.prog 102 #[.pointer (some ⟨yb, 0, none⟩), v] w1 fun e w' => e = .returned (.tuple #[]) ∧
      ∃ vl' vL' vk, RefAt yb { S with cl := bump S.cl (S.s - 1), g := S.g + 1, L := L' } vc vl' vw vL' (log ++ [opCells ⟨S.s, S.cl (S.s - 1) + 1, S.g + 1, kind, tc, tk, rr, S.cl⟩ vk]) wt w' ∧ NewClk S vk w.heap.size w' ∧ Fr (refOwn yb vc vl vw vL) w w' ∧ OwnFrom (refOwn yb vc vl vw vL) (refOwn yb vc vl' vw vL') w.heap.size := by
  have h8 := hG.n8
  have hn := hG.sn
  have hcl := hG.cl (S.s - 1) (by have := hG.s1; omega)
  refine (ref_own yb S vc vl vw vL log wt kind tc tk rr w h hG).mono ?_
  rintro e w1 ⟨v, rfl, hRv, hfv, hg1⟩
  obtain ⟨va, vp, rfl, -⟩ := hRv.value
  refine ⟨_, rfl, ?_⟩
  refine (ref_apply yb S vc vl vw vL log wt S.s (S.cl (S.s - 1) + 1) (S.g + 1) kind tc tk rr va _ vp w1 (h.grown hg1) hG.s1 hn h8 ⟨hcl.1, by omega⟩ hlen hlog L' hcase).mono ?_
  rintro e w2 ⟨rfl, vl', vL', hr2, hF2, h1, h2⟩
  have em : max S.g (S.g + 1) = S.g + 1 := by omega
  rw [em] at hr2
  have hs := hg1.size
  have hk2 : RowAt 3 1 (.slice va (ckRow S).length vp) (ckRow S) w2 := hRv.kept (fun g hg => hF2.block g (hRv.lt hg) (fun q => by have := h.lt g q; have := hfv g hg; omega))
  refine ⟨rfl, vl', vL', _, hr2, ⟨hk2, hfv⟩, ((Fr.refl _ w).grown hg1 (by simp)).trans hF2, refOwn_from (fun g hg => (h1 g hg).imp id (fun q => by omega)) (fun g hg => (h2 g hg).imp id (fun q => by omega))⟩

theorem OwnFrom.mono {own own' : List Nat} {n m : Nat} (h : OwnFrom own own' n) (hm : m ≤ n) : OwnFrom own own' m := fun k hk => (h k hk).imp id (fun q => Nat.le_trans hm q)

theorem good_pos {S : CS} (hG : Good S) : ∀ x ∈ S.L, 0 < x.c := fun x hx => (hG.mark x hx).1

set_option maxRecDepth 100000 in
set_option maxHeartbeats 2000000 in
theorem ref_ins_ok (yb : Nat) (S : CS) (hG : Good S) (hap : Apart S.L) (vc vl vw vL : Value) (log wt : List (List Value)) (p : Nat) (r : Int) (w : World) (h : RefAt yb S vc vl vw vL log wt w) (hlen : S.L.length ≤ 100000) (hlog : log.length ≤ 100000) (hp : p ≤ (vis S.L).length) (hr : Lib.validRune r = true)
    (hfu : decide (100 ≤ S.cl (S.s - 1) ∨ 1099511627776 ≤ S.g) = false) (A R : List El) (hC : CutIs S.L p A R) :
    Calls Tryz.prog 91 #[.pointer (some ⟨yb, 0, none⟩), .int .i64 p, .int .i64 r] w fun e w' => e = .returned (.int .i64 0) ∧
      ∃ vl' vL' vk, RefAt yb { S with cl := bump S.cl (S.s - 1), g := S.g + 1, L := A ++ behind (newEl S r hr) R } vc vl' vw vL' (log ++ [opCells (opIns S (lc A) (lk A) r) vk]) wt w' ∧ NewClk S vk w.heap.size w' ∧ Fr (refOwn yb vc vl vw vL) w w' ∧ OwnFrom (refOwn yb vc vl vw vL) (refOwn yb vc vl' vw vL') w.heap.size := by
  obtain ⟨hL, hA, hA0, hA1⟩ := hC
  have hT := ref_there yb S vc vl vw vL log wt w h (by omega)
  have hfi : findI (lc A) (lk A) S.L 0 = (A.length : Int) - 1 := by
    have h1 := good_pos hG
    rw [hL] at hap h1 ⊢
    exact findI_last hap h1
  have hW := fun (w' : World) (hw : RefAt yb S vc vl vw vL log wt w') => ref_write yb S hG vc vl vw vL log wt 0 (lc A) (lk A) r w' hw hlen hlog (A ++ behind (newEl S r hr) R) (.inr ⟨rfl, A, R, newEl S r hr, hL, hfi, rfl, rfl, rfl, rfl, rfl⟩)
  have hSc := fun w => scalarR r w
  rw [hr] at hSc
  have hFu := fun (w' : World) (hw : Below w.heap.size w w') => ref_full yb S vc vl vw vL log wt w' (h.below hw) hG.s1 hG.sn hG.n8
  rw [hfu] at hFu
  have hvl : (vis S.L).length ≤ 100000 := Nat.le_trans (List.length_filter_le _ _) hlen
  generalize A ++ behind (newEl S r hr) R = L2 at hW ⊢
  have HW := hide hW
  clear hW hfi hfu hr hap hL
  cases p with
  | zero =>
    obtain rfl := hA0 rfl
    clear hA0 hA1
    go_enter Tryz.func91, Tryz.ntmps91
    go_wp2_with fail
    refine hT.mono ?_
    rintro e w1 ⟨v, rfl, hR, hf, hB⟩
    obtain ⟨a, c, rfl, hc⟩ := hR.value
    rw [List.length_map] at hc ⊢
    go_wp2_with (first | (go_at_call 135; refine (hSc _).mono ?_; rintro e w' ⟨rfl, hw⟩; rw [hw]; clear hw w') | (go_at_call 136; refine (hFu _ hB).mono ?_; rintro e w2 ⟨rfl, hg2⟩))
    have g3 : w2.grownBy (w2.alloc (.cells #[.int .i64 0, .int .i64 0] 86)) none := grown_alloc (grown_refl _) _
    have hr3 := ((h.below hB).grown hg2).grown g3
    have hF3 := (((Fr.refl (refOwn yb vc vl vw vL) w).below hB (Nat.le_refl _)).grown hg2 (by simp)).grown g3 (by simp)
    refine (HW.out _ hr3).mono ?_
    rintro e w5 ⟨v, rfl, hAp⟩
    go_wp2_with fail
    refine hAp.mono ?_
    rintro e w6 ⟨rfl, vl', vL', vk, h1, h2, h3, h4⟩
    go_wp2_with fail
    go_ret
    exact ⟨rfl, vl', vL', vk, h1, h2.mono hF3.size, hF3.trans h3, h4.mono hF3.size⟩
  | succ p =>
    obtain ⟨x, hx, e1, e2⟩ := hA1 p rfl
    rw [e1, e2] at HW
    have ep : (((p + 1 : Nat) : Nat) : Int) = (p : Int) + 1 := by omega
    rw [ep]
    have hp1 : (p : Int) + 1 ≤ ((vis S.L).length : Int) := by omega
    have hp2 : (p : Int) < ((vis S.L).length : Int) := by omega
    have HE : Hid (lc A = x.c ∧ lk A = x.k) := ⟨e1, e2⟩
    clear hA0 hA1 ep e1 e2
    go_enter Tryz.func91, Tryz.ntmps91
    go_wp2_with fail
    refine hT.mono ?_
    rintro e w1 ⟨v, rfl, hR, hf, hB⟩
    obtain ⟨gv, cv, cur, rfl, hc, -, -⟩ := hR.cell (i := p) (x := elCells x) (by simp [hx])
    rw [List.length_map] at hc hR ⊢
    go_upto_region 12 with (first | (go_at_call 135; refine (hSc _).mono ?_; rintro e w' ⟨rfl, hw⟩; rw [hw]; clear hw w') | (go_at_call 136; refine (hFu _ hB).mono ?_; rintro e w2 ⟨rfl, hg2⟩))
    have g3 : w2.grownBy (w2.alloc (.cells #[.int .i64 0, .int .i64 0] 86)) none := grown_alloc (grown_refl _) _
    have k3 : (w2.alloc (.cells #[.int .i64 0, .int .i64 0] 86)).heap[w2.heap.size]? = some (.cells #[.int .i64 0, .int .i64 0] 86) := by rw [heap_alloc_at]; simp
    have hr3 := ((h.below hB).grown hg2).grown g3
    have hR3 := (hR.grown hg2).grown g3
    have hF3 := (((Fr.refl (refOwn yb vc vl vw vL) w).below hB (Nat.le_refl _)).grown hg2 (by simp)).grown g3 (by simp)
    have hs2 : w.heap.size ≤ w2.heap.size := Nat.le_trans hB.size hg2.size
    generalize (w2.alloc (.cells #[.int .i64 0, .int .i64 0] 86)) = w3 at g3 k3 hr3 hR3 hF3 ⊢
    obtain ⟨gv', cv', cur', hv', -, hbv, hcv⟩ := hR3.cell (i := p) (x := elCells x) (by simp [hx])
    simp only [Value.slice.injEq, Option.some.injEq, Addr.mk.injEq, and_true] at hv'
    obtain ⟨rfl, -, rfl⟩ := hv'
    have x0 : w3.cell? ⟨gv, p * 4, none⟩ = some (.int .i64 x.c) := (cell_blk hbv _).trans (hcv 0 _ rfl)
    have x1 : w3.cell? ⟨gv, p * 4 + 1, none⟩ = some (.int .i64 x.k) := (cell_blk hbv _).trans (hcv 1 _ rfl)
    have d0 : w3.cell? ⟨w2.heap.size, 0, none⟩ = some (.int .i64 0) := cell_blk k3 0
    have d1 : w3.cell? ⟨w2.heap.size, 1, none⟩ = some (.int .i64 0) := cell_blk k3 1
    have f0 : w3.frozen? ⟨w2.heap.size, 0, none⟩ = false := frozen_blk k3 0
    have f1 : w3.frozen? ⟨w2.heap.size, 1, none⟩ = false := frozen_blk k3 1
    clear hR hR3 hcv hbv hT hSc hFu
    go_wp2_with fail
    have hr4 : RefAt yb S vc vl vw vL log wt ((w3.setCell ⟨w2.heap.size, 0, none⟩ (.int .i64 x.c)).setCell ⟨w2.heap.size, 1, none⟩ (.int .i64 x.k)) := hr3.kept (fun k hk => by
      have := h.lt k hk
      rw [Below.heap_setCell _ _ _ _ (by simp; omega), Below.heap_setCell _ _ _ _ (by simp; omega)])
    have hF4 := (hF3.setCell (p := ⟨w2.heap.size, 0, none⟩) (.inr (by simp; omega)) (.int .i64 x.c)).setCell (p := ⟨w2.heap.size, 1, none⟩) (.inr (by simp; omega)) (.int .i64 x.k)
    refine (HW.out _ hr4).mono ?_
    rintro e w5 ⟨v, rfl, hAp⟩
    go_wp2_with fail
    refine hAp.mono ?_
    rintro e w6 ⟨rfl, vl', vL', vk, h1, h2, h3, h4⟩
    go_wp2_with fail
    go_ret
    exact ⟨rfl, vl', vL', vk, by rw [HE.out.1, HE.out.2]; exact h1, h2.mono hF4.size, hF4.trans h3, h4.mono hF4.size⟩

set_option maxRecDepth 100000 in
set_option maxHeartbeats 1000000 in
theorem ref_del_place (yb : Nat) (S : CS) (vc vl vw vL : Value) (log wt : List (List Value)) (p : Int) (w : World) (h : RefAt yb S vc vl vw vL log wt w) (hlen : S.L.length ≤ 100000) (hp : p < 0 ∨ (vis S.L).length ≤ p) :
    Calls Tryz.prog 92 #[.pointer (some ⟨yb, 0, none⟩), .int .i64 p] w fun e w' => e = .returned (.int .i64 3) ∧ Below w.heap.size w w' := by
  have hT := ref_there yb S vc vl vw vL log wt w h (by omega)
  by_cases h0 : p < 0
  · go_enter Tryz.func92, Tryz.ntmps92
    go_wp2_with fail
    refine hT.mono ?_
    rintro e w1 ⟨v, rfl, hR, hf, hB⟩
    go_wp2_with fail
    go_ret
    exact ⟨rfl, hB⟩
  · have h1 : ((vis S.L).length : Int) ≤ p := by omega
    go_enter Tryz.func92, Tryz.ntmps92
    go_wp2_with fail
    refine hT.mono ?_
    rintro e w1 ⟨v, rfl, hR, hf, hB⟩
    obtain ⟨a, c, rfl, hc⟩ := hR.value
    rw [List.length_map] at hc ⊢
    go_wp2_with fail
    go_ret
    exact ⟨rfl, hB⟩

set_option maxRecDepth 100000 in
set_option maxHeartbeats 1000000 in
theorem ref_del_full (yb : Nat) (S : CS) (hG : Good S) (vc vl vw vL : Value) (log wt : List (List Value)) (p : Int) (w : World) (h : RefAt yb S vc vl vw vL log wt w) (hlen : S.L.length ≤ 100000) (hp0 : 0 ≤ p) (hp : p < (vis S.L).length)
    (hfu : decide (100 ≤ S.cl (S.s - 1) ∨ 1099511627776 ≤ S.g) = true) :
    Calls Tryz.prog 92 #[.pointer (some ⟨yb, 0, none⟩), .int .i64 p] w fun e w' => e = .returned (.int .i64 5) ∧ Below w.heap.size w w' := by
  have hT := ref_there yb S vc vl vw vL log wt w h (by omega)
  have hFu := fun (w' : World) (hw : Below w.heap.size w w') => ref_full yb S vc vl vw vL log wt w' (h.below hw) hG.s1 hG.sn hG.n8
  rw [hfu] at hFu
  clear hfu
  go_enter Tryz.func92, Tryz.ntmps92
  go_wp2_with fail
  refine hT.mono ?_
  rintro e w1 ⟨v, rfl, hR, hf, hB⟩
  obtain ⟨a, c, rfl, hc⟩ := hR.value
  rw [List.length_map] at hc ⊢
  go_wp2_with (first | (go_at_call 136; refine (hFu _ hB).mono ?_; rintro e w2 ⟨rfl, hg2⟩))
  go_ret
  exact ⟨rfl, hB.grown hg2 hB.size (by simp)⟩

set_option maxRecDepth 100000 in
set_option maxHeartbeats 2000000 in
theorem ref_del_ok (yb : Nat) (S : CS) (hG : Good S) (hap : Apart S.L) (vc vl vw vL : Value) (log wt : List (List Value)) (p : Int) (w : World) (h : RefAt yb S vc vl vw vL log wt w) (hlen : S.L.length ≤ 100000) (hlog : log.length ≤ 100000) (hp0 : 0 ≤ p)
    (hfu : decide (100 ≤ S.cl (S.s - 1) ∨ 1099511627776 ≤ S.g) = false) (A R : List El) (x : El) (hL : S.L = A ++ x :: R) (hA : (vis A).length = p.toNat) (hd : x.d = false) :
    Calls Tryz.prog 92 #[.pointer (some ⟨yb, 0, none⟩), .int .i64 p] w fun e w' => e = .returned (.int .i64 0) ∧
      ∃ vl' vL' vk, RefAt yb { S with cl := bump S.cl (S.s - 1), g := S.g + 1, L := A ++ gone x :: R } vc vl' vw vL' (log ++ [opCells (opDel S x.c x.k) vk]) wt w' ∧ NewClk S vk w.heap.size w' ∧ Fr (refOwn yb vc vl vw vL) w w' ∧ OwnFrom (refOwn yb vc vl vw vL) (refOwn yb vc vl' vw vL') w.heap.size := by
  obtain ⟨p, rfl⟩ := Int.eq_ofNat_of_zero_le hp0
  rw [Int.toNat_natCast] at hA
  have hT := ref_there yb S vc vl vw vL log wt w h (by omega)
  have hx : (vis S.L)[p]? = some x := by rw [hL, vis_append, vis_cons_there hd, ← hA]; simp
  have hfi : findI x.c x.k S.L 0 = (A.length : Int) := by rw [hL] at hap ⊢; exact findI_mid hap
  have hW := fun (w' : World) (hw : RefAt yb S vc vl vw vL log wt w') => ref_write yb S hG vc vl vw vL log wt 1 x.c x.k 0 w' hw hlen hlog (A ++ gone x :: R) (.inl ⟨rfl, A, x, R, hL, hfi, rfl⟩)
  have hFu := fun (w' : World) (hw : Below w.heap.size w w') => ref_full yb S vc vl vw vL log wt w' (h.below hw) hG.s1 hG.sn hG.n8
  rw [hfu] at hFu
  have hvl : (vis S.L).length ≤ 100000 := Nat.le_trans (List.length_filter_le _ _) hlen
  have hp2 : (p : Int) < ((vis S.L).length : Int) := by have := (List.getElem?_eq_some_iff.1 hx).1; omega
  generalize A ++ gone x :: R = L2 at hW ⊢
  have HW := hide hW
  clear hW hfi hfu hap hL hA hd
  go_enter Tryz.func92, Tryz.ntmps92
  go_wp2_with fail
  refine hT.mono ?_
  rintro e w1 ⟨v, rfl, hR, hf, hB⟩
  obtain ⟨gv, cv, cur, rfl, hc, -, -⟩ := hR.cell (i := p) (x := elCells x) (by simp [hx])
  rw [List.length_map] at hc hR ⊢
  go_upto_region 7 with (first | (go_at_call 136; refine (hFu _ hB).mono ?_; rintro e w3 ⟨rfl, hg2⟩))
  have hr3 := ((h.below hB).grown hg2)
  have hR3 := (hR.grown hg2)
  have hF3 := (((Fr.refl (refOwn yb vc vl vw vL) w).below hB (Nat.le_refl _)).grown hg2 (by simp))
  obtain ⟨gv', cv', cur', hv', -, hbv, hcv⟩ := hR3.cell (i := p) (x := elCells x) (by simp [hx])
  simp only [Value.slice.injEq, Option.some.injEq, Addr.mk.injEq, and_true] at hv'
  obtain ⟨rfl, -, rfl⟩ := hv'
  have x0 : w3.cell? ⟨gv, p * 4, none⟩ = some (.int .i64 x.c) := (cell_blk hbv _).trans (hcv 0 _ rfl)
  have x1 : w3.cell? ⟨gv, p * 4 + 1, none⟩ = some (.int .i64 x.k) := (cell_blk hbv _).trans (hcv 1 _ rfl)
  clear hR hR3 hcv hbv hT hFu
  go_wp2_with fail
  refine (HW.out _ hr3).mono ?_
  rintro e w5 ⟨v, rfl, hAp⟩
  go_wp2_with fail
  refine hAp.mono ?_
  rintro e w6 ⟨rfl, vl', vL', vk, h1, h2, h3, h4⟩
  go_wp2_with fail
  go_ret
  exact ⟨rfl, vl', vL', vk, h1, h2.mono hF3.size, hF3.trans h3, h4.mono hF3.size⟩

end Go.Proofs.YtachmkhbbbmioaaGreat
