import Derived.Test.YtachmkhbbbmioaaGreatDAX
namespace Go.Proofs.YtachmkhbbbmioaaGreat
open Go.RowKit Go.Shelf

theorem clk_zero (n : Nat) : intRow (clk n (fun _ => 0)) = List.replicate n [.int .i64 0] := by
  apply List.ext_getElem?
  intro i
  by_cases h : i < n
  · simp [intRow, clk, h]
  · rw [List.getElem?_eq_none (by simp [intRow, clk]; omega), List.getElem?_eq_none (by simp; omega)]

theorem row_made {n : Nat} (h8 : n ≤ 8) {w : World} {b : Nat} (hb : w.heap[b]? = some (.cells (madeCells #[.int .i64 0] n) 3)) : RowAt 3 1 (.slice (some ⟨b, 0, none⟩) n n) (intRow (clk n (fun _ => 0))) w := by
  rw [clk_zero]
  refine ⟨⟨?_, .inr ⟨b, n, _, ?_, Nat.zero_le _, hb, ?_, ?_, ?_, ?_⟩⟩, ?_⟩
  · rw [flatten_rep]; simp
  · simp
  · simp
  · unfold maxLen; omega
  · rw [size_madeCells]; simp
  · rw [flatten_rep, toList_madeCells_one]; simp
  · intro x hx; rw [List.eq_of_mem_replicate hx]; rfl

/-- One number of a clock is written. -/
theorem clk_set {n i : Nat} (hi : i < n) (q q' : Nat → Int) (h : ∀ j, j ≠ i → q' j = q j) : (intRow (clk n q)).set i ([Value.int .i64 (q i)].set 0 (.int .i64 (q' i))) = intRow (clk n q') := by
  apply List.ext_getElem?
  intro j
  rw [List.getElem?_set]
  by_cases e : i = j
  · subst e
    simp [intRow, clk, hi]
  · rw [if_neg e]
    by_cases hj : j < n
    · simp [intRow, clk, hj, h j (Ne.symm e)]
    · rw [List.getElem?_eq_none (by simp [intRow, clk]; omega), List.getElem?_eq_none (by simp [intRow, clk]; omega)]

theorem partCk_none (q : Nat → Int) : partCk q 0 = fun _ => 0 := by funext j; simp [partCk]

set_option maxRecDepth 100000 in
set_option maxHeartbeats 2000000 in
theorem longR (n : Nat) (h8 : n ≤ 8) (m : Nat) (hm : m ≤ 8) (q : Nat → Int) (hq : ∀ i, i < m → 0 ≤ q i) (v : Value) (w : World) (hv : RowAt 3 1 v (intRow (clk m q)) w) :
    Calls Tryz.prog 40 #[v, .int .i64 n] w fun e w' => ∃ g, e = .returned (.slice (some ⟨g, 0, none⟩) n n) ∧ RowAt 3 1 (.slice (some ⟨g, 0, none⟩) n n) (intRow (clk n (partCk q m))) w' ∧ w.heap.size ≤ g ∧ w.grownBy w' none := by
  have hmk := fun w => run_make_row' (P := Tryz.prog) 40 3 (.int .i64 0) 8 Tryz.underlying40 infoInt rfl .i64 .i64 n (by omega) (by omega) w
  obtain ⟨av, cv, rfl, -⟩ := hv.value
  rw [intRow_len, clk_len] at hv ⊢
  have g1 : w.grownBy (w.alloc (.cells (madeCells #[.int .i64 0] n) 3)) none := grown_alloc (grown_refl _) _
  have k1 : (w.alloc (.cells (madeCells #[.int .i64 0] n) 3)).heap[w.heap.size]? = some (.cells (madeCells #[.int .i64 0] n) 3) := by rw [heap_alloc_at]; simp
  go_enter Tryz.func40, Tryz.ntmps40
  go_wp2_with fail
  clear hmk
  generalize (w.alloc (.cells (madeCells #[.int .i64 0] n) 3)) = w1 at g1 k1 ⊢
  have hv1 := hv.grown g1
  have hR1 := row_made h8 k1
  obtain ⟨b, hb⟩ : ∃ b, w.heap.size = b := ⟨_, rfl⟩
  rw [hb] at k1 hR1 ⊢
  have hne : ∀ g, (Value.slice av m cv).ownBlock = some g → g ≠ b := fun g hg => by have := hv.lt hg; omega
  go_loopg [6] n (fun gk s6 wr => ∃ (i : Nat), s6 = .int .i64 i ∧ i ≤ n ∧ i ≤ m ∧ gk = n - i ∧ RowAt 3 1 (.slice (some ⟨b, 0, none⟩) n n) (intRow (clk n (partCk q i))) wr ∧ RowAt 3 1 (.slice av m cv) (intRow (clk m q)) wr ∧ Fr [] w wr)
  case atStart => exact ⟨0, rfl, by omega, by omega, rfl, by rw [partCk_none]; exact hR1, hv1, Fr.ofGrown g1⟩
  case round =>
    clear hR1 hv1 k1
    obtain ⟨i, rfl, hin, him, hgk, hR, hv1, hF⟩ := hrel
    by_cases hlt : i < n
    · have hli : (i : Int) < (n : Int) := by omega
      by_cases hlm : i < m
      · have hlmi : (i : Int) < (m : Int) := by omega
        have hqi := hq i hlm
        obtain ⟨g2, c2, cur2, hv2, -, hb2, hx2⟩ := hv1.cell (intRow_at (clk_at q hlm))
        rw [intRow_len, clk_len] at hv2
        cases hv2
        have k2 : wr.cell? ⟨g2, i, none⟩ = some (.int .i64 (q i)) := (cell_blk hb2 _).trans (by simpa using hx2 0 _ rfl)
        obtain ⟨g3, c3, cur3, hv3, -, hb3, hx3⟩ := hR.cell (intRow_at (clk_at (partCk q i) hlt))
        rw [intRow_len, clk_len] at hv3
        cases hv3
        have k3 : wr.cell? ⟨b, i, none⟩ = some (.int .i64 (partCk q i i)) := (cell_blk hb3 _).trans (by simpa using hx3 0 _ rfl)
        have f3 : wr.frozen? ⟨b, i, none⟩ = false := frozen_blk hb3 _
        have hmx : ∀ w, (Builtin.max_ #[3, 3] 3 #[.int .i64 (q i), .int .i64 0]).run Tryz.prog w = .ok (.int .i64 (q i)) w := fun w => by
          rw [run_max_int2]
          have : (if (0 : Int) > q i then (0 : Int) else q i) = q i := by split <;> omega
          rw [this]
        have hset := hR.set (i := i) (j := 0) (y := .int .i64 (q i)) (intRow_at (clk_at (partCk q i) hlt)) (by omega)
        have hpq : partCk q (i + 1) i = q i := by simp [partCk]
        have hcs := clk_set hlt (partCk q i) (partCk q (i + 1)) (fun j hj => by
          unfold partCk
          by_cases h1 : j < i
          · rw [if_pos h1, if_pos (by omega)]
          · rw [if_neg h1, if_neg (by omega)])
        rw [hpq] at hcs
        rw [hcs, Nat.mul_one, Nat.add_zero] at hset
        have hv3' : RowAt 3 1 (.slice (some ⟨g2, 0, none⟩) m cv) (intRow (clk m q)) (wr.setCell ⟨b, i, none⟩ (.int .i64 (q i))) := hv1.kept (fun g hg => Below.heap_setCell _ _ _ _ (hne g hg))
        have hF' := hF.setCell (p := ⟨b, i, none⟩) (.inr (by simp; omega)) (.int .i64 (q i))
        clear hx2 hx3 hcs hpq
        go_wp2_with fail
        go_roundg (n - (i + 1))
        case measure => omega
        case rel => exact ⟨i + 1, by go_num, by omega, by omega, rfl, hset, hv3', hF'⟩
      · obtain rfl : i = m := by omega
        have hlmi : ¬ (i : Int) < (i : Int) := by omega
        go_wp2_with fail
        go_ret
        exact ⟨b, rfl, hR, by omega, hF.toGrown⟩
    · obtain rfl : i = n := by omega
      have hpp : clk i (partCk q i) = clk i (partCk q m) := by
        unfold clk
        apply List.map_congr_left
        intro j hj
        have := List.mem_range.1 hj
        unfold partCk
        rw [if_pos this, if_pos (by omega)]
      rw [hpp] at hR
      go_wp2_with fail
      go_ret
      exact ⟨b, rfl, hR, by omega, hF.toGrown⟩

/-- The clock of the digest that the law makes. -/
def near (p3 p2 : Nat) (q : Nat → Int) : Nat → Int := fun i => if p3 = 0 then 0 else if p2 = 1 ∧ 0 < q i then q i - 1 else q i
def mix (i : Nat) (q' q : Nat → Int) : Nat → Int := fun j => if j < i then q' j else q j

theorem near_in {p3 p2 : Nat} {q : Nat → Int} {i : Nat} (h : 0 ≤ q i ∧ q i ≤ 100) : 0 ≤ near p3 p2 q i ∧ near p3 p2 q i ≤ 100 := by
  unfold near
  split
  · omega
  · split <;> omega

theorem mix_step (i : Nat) (q' q : Nat → Int) : ∀ j, j ≠ i → mix (i + 1) q' q j = mix i q' q j := by
  intro j hj
  unfold mix
  by_cases h1 : j < i
  · rw [if_pos h1, if_pos (by omega)]
  · rw [if_neg h1, if_neg (by omega)]

theorem mix_full (n : Nat) (q' q : Nat → Int) : clk n (mix n q' q) = clk n q' := by
  unfold clk
  apply List.map_congr_left
  intro j hj
  have := List.mem_range.1 hj
  unfold mix
  rw [if_pos this]

/-- A clock's numbers are written over, or stay. -/
theorem mix_set {n i b : Nat} (hi : i < n) {q' q : Nat → Int} {w : World} (hR : RowAt 3 1 (.slice (some ⟨b, 0, none⟩) n n) (intRow (clk n (mix i q' q))) w) (y : Int) (hy : q' i = y) : RowAt 3 1 (.slice (some ⟨b, 0, none⟩) n n) (intRow (clk n (mix (i + 1) q' q))) (w.setCell ⟨b, i, none⟩ (.int .i64 y)) := by
  have hset := hR.set (i := i) (j := 0) (y := .int .i64 y) (intRow_at (clk_at (mix i q' q) hi)) (by omega)
  have e : mix (i + 1) q' q i = y := by unfold mix; rw [if_pos (by omega)]; exact hy
  have hcs := clk_set hi (mix i q' q) (mix (i + 1) q' q) (mix_step i q' q)
  rw [e] at hcs
  rw [hcs, Nat.mul_one, Nat.add_zero] at hset
  exact hset

theorem mix_stay {n i b : Nat} (hi : i < n) {q' q : Nat → Int} {w : World} (hR : RowAt 3 1 (.slice (some ⟨b, 0, none⟩) n n) (intRow (clk n (mix i q' q))) w) (hy : q' i = q i) : RowAt 3 1 (.slice (some ⟨b, 0, none⟩) n n) (intRow (clk n (mix (i + 1) q' q))) w := by
  have e : mix (i + 1) q' q = mix i q' q := by
    funext j
    by_cases h : j = i
    · subst h
      unfold mix
      rw [if_pos (by omega), if_neg (by omega), hy]
    · exact mix_step i q' q j h
  rw [e]; exact hR

end Go.Proofs.YtachmkhbbbmioaaGreat

namespace Go.Proofs.YtachmkhbbbmioaaGreat
open Go.RowKit Go.Shelf

set_option maxRecDepth 100000 in
set_option maxHeartbeats 8000000 in
/-- A digest that the law makes is handled. -/
theorem digest_d (base wb : Nat) (L : LS) (j : Nat) (x : Pr) (w : World) (h0 : WAt base wb L w) (hj : L.prs[j]? = some x) (hb0 : base ≤ w.heap.size) (hlen : L.trs.length ≤ 2000000) (hair : L.air.length ≤ 4000000000) (hp0 : 0 < L.prs.length) (hp9 : L.prs.length ≤ 9)
    (k C A B : Int) (s : ByteArray) (hC1 : -9223372036854775808 ≤ C) (hC2 : C ≤ 9223372036854775807) (hA1 : -9223372036854775808 ≤ A) (hA2 : A ≤ 9223372036854775807) (hB1 : -9223372036854775808 ≤ B) (hB2 : B ≤ 9223372036854775807) :
    Calls Tryz.prog 67 #[.pointer (some ⟨wb, 0, none⟩), .agg #[.pointer (some ⟨x.cb, 0, none⟩), .pointer (some ⟨x.yb, 0, none⟩)], .agg #[.int .i64 k, .int .i64 C, .int .i64 A, .int .i64 B, .string s]] w fun e w' => e = .returned (.bool true) ∧ ∃ L', Next L L' 1000 ∧ WAt base wb L' w' ∧ Below base w w' := by
  have g1 : w.grownBy ((w.alloc (.cells #[.pointer (some ⟨x.cb, 0, none⟩), .pointer (some ⟨x.yb, 0, none⟩)] 39)).alloc (.cells #[.int .i64 k, .int .i64 C, .int .i64 A, .int .i64 B, .string s] 72)) none := grown_alloc (grown_alloc (grown_refl _) _) _
  have k1 : ((w.alloc (.cells #[.pointer (some ⟨x.cb, 0, none⟩), .pointer (some ⟨x.yb, 0, none⟩)] 39)).alloc (.cells #[.int .i64 k, .int .i64 C, .int .i64 A, .int .i64 B, .string s] 72)).heap[w.heap.size]? = some (.cells #[.pointer (some ⟨x.cb, 0, none⟩), .pointer (some ⟨x.yb, 0, none⟩)] 39) := by
    rw [Below.heap_alloc _ _ _ (by simp), heap_alloc_at]; simp
  have k2 : ((w.alloc (.cells #[.pointer (some ⟨x.cb, 0, none⟩), .pointer (some ⟨x.yb, 0, none⟩)] 39)).alloc (.cells #[.int .i64 k, .int .i64 C, .int .i64 A, .int .i64 B, .string s] 72)).heap[w.heap.size + 1]? = some (.cells #[.int .i64 k, .int .i64 C, .int .i64 A, .int .i64 B, .string s] 72) := by
    rw [heap_alloc_at]; simp
  go_enter Tryz.func67, Tryz.ntmps67
  go_upto_region 1 with fail
  generalize ((w.alloc (.cells #[.pointer (some ⟨x.cb, 0, none⟩), .pointer (some ⟨x.yb, 0, none⟩)] 39)).alloc (.cells #[.int .i64 k, .int .i64 C, .int .i64 A, .int .i64 B, .string s] 72)) = w1 at g1 k1 k2 ⊢
  have h := h0.grown g1
  have hb : base ≤ w1.heap.size := Nat.le_trans hb0 g1.size
  have hBw : Below base w w1 := (Below.refl _ w).grown g1 hb0 (by simp)
  generalize w.heap.size + 1 = b2 at k2 ⊢
  generalize w.heap.size = b1 at k1 ⊢
  clear h0 hb0 g1
  obtain ⟨i, hi⟩ : ∃ i, pk A L.prs.length = i := ⟨_, rfl⟩
  have hil : i < L.prs.length := hi ▸ pk_lt A hp0
  have hPk := fun w => pickL A L.prs.length hp0 (by omega) hA1 hA2 w
  rw [hi] at hPk
  clear hi
  obtain ⟨y, hy⟩ : ∃ y, L.prs[i]? = some y := ⟨L.prs[i], by simp [hil]⟩
  have c0 : w1.cell? ⟨wb, 0, none⟩ = some L.vl := cell_blk h.cp 0
  obtain ⟨gl, cl, cur, hvl, -, hbl, hcell⟩ := h.l.cell (i := i) (x := twoCells y) (by simp [hy])
  rw [List.length_map] at hvl
  rw [hvl] at c0
  have t0 : w1.cell? ⟨gl, i * 2, none⟩ = some (.pointer (some ⟨y.cb, 0, none⟩)) := (cell_blk hbl _).trans (hcell 0 _ rfl)
  have t1 : w1.cell? ⟨gl, i * 2 + 1, none⟩ = some (.pointer (some ⟨y.yb, 0, none⟩)) := (cell_blk hbl _).trans (hcell 1 _ rfl)
  have a2 : w1.cell? ⟨b2, 2, none⟩ = some (.int .i64 A) := cell_blk k2 2
  have hli : (i : Int) < (L.prs.length : Int) := by omega
  have HY := hide hy
  have HX := hide hj
  clear hy hj hcell hvl
  generalize hPL : L.prs.length = m at hli hil hPk c0 hp9 hp0
  have HPL := hide hPL
  clear hPL
  go_cut [7] (fun s7 wx => ∃ b7 : Nat, s7 = .pointer (some ⟨b7, 0, none⟩) ∧ wx.heap[b7]? = some (.cells #[.pointer (some ⟨y.cb, 0, none⟩), .pointer (some ⟨y.yb, 0, none⟩)] 39) ∧ w1.grownBy wx none)
  case first =>
    go_region_held3 (fun w' => w'.cell? ⟨wb, 0, none⟩ = some (.slice (some ⟨gl, 0, none⟩) m cl) ∧ w'.cell? ⟨b2, 2, none⟩ = some (.int .i64 A) ∧ w'.cell? ⟨gl, i * 2, none⟩ = some (.pointer (some ⟨y.cb, 0, none⟩)) ∧ w'.cell? ⟨gl, i * 2 + 1, none⟩ = some (.pointer (some ⟨y.yb, 0, none⟩))) (go_keep)
      (first | (go_at_call 12; refine (hPk _).mono ?_; rintro e w' ⟨rfl, hw⟩; rw [hw]; clear hw w'))
    all_goals
      go_wp2_with fail
      go_meet
      exact ⟨w1.heap.size, rfl, by rw [heap_drew, heap_alloc_at]; simp, grown_drew (grown_alloc (grown_refl _) _)⟩
  case rest =>
  obtain ⟨b7, rfl, k7, g7⟩ := hcut
  have hC := h.grown g7
  have k12 := (g7.block _ (lt_of_heap k1) (by simp)).trans k1
  have k22 := (g7.block _ (lt_of_heap k2) (by simp)).trans k2
  have hbc : base ≤ wc.heap.size := Nat.le_trans hb g7.size
  have hBc : Below base w wc := hBw.grown g7 hb (by simp)
  have e71 : wc.cell? ⟨b7, 1, none⟩ = some (.pointer (some ⟨y.yb, 0, none⟩)) := cell_blk k7 1
  have e11 : wc.cell? ⟨b1, 1, none⟩ = some (.pointer (some ⟨x.yb, 0, none⟩)) := cell_blk k12 1
  have hPy := hC.pr i y HY.out
  have hPx := hC.pr j x HX.out
  have h8y := hPy.good.n8
  have h8x := hPx.good.n8
  have hs1x := hPx.good.s1
  have hsnx := hPx.good.sn
  clear c0 t0 t1 a2 hbl hPk h k1 k2 g7 k7 hBw hb
  have HC1 := hide (ref_clock y.yb y.S _ _ _ _ _ _ wc hPy.rf h8y)
  go_wp2_with fail
  refine HC1.out.mono ?_
  rintro e w3 ⟨v8, rfl, hR8, hO8, g3⟩
  have e113 := cell_of_grown e11 g3
  have HC2 := hide (ref_clock x.yb x.S _ _ _ _ _ _ w3 (hPx.rf.grown g3) h8x)
  go_wp2_with fail
  refine HC2.out.mono ?_
  rintro e w4 ⟨v9, rfl, hR9, hO9, g4⟩
  rw [ckRow_int] at hR8 hR9
  obtain ⟨a9, c9, rfl, -⟩ := hR9.value
  rw [intRow_len, clk_len] at hR9 hO9 ⊢
  have hq0 : ∀ i, i < x.S.n → 0 ≤ partCk y.S.cl y.S.n i ∧ partCk y.S.cl y.S.n i ≤ 100 := fun i hi => by
    unfold partCk
    split
    · exact hPy.good.cl i (by omega)
    · omega
  have HLo := hide (longR x.S.n h8x y.S.n h8y y.S.cl (fun i hi => (hPy.good.cl i (by omega)).1) v8 w4 (hR8.grown g4))
  obtain ⟨q0, hq00⟩ : ∃ q0, partCk y.S.cl y.S.n = q0 := ⟨_, rfl⟩
  rw [hq00] at hq0 HLo
  clear hq00 HC1 HC2 e71 e11 e113
  go_wp2_with fail
  refine HLo.out.mono ?_
  rintro e w5 ⟨gc, rfl, hRc, hgc, g5⟩
  have hGA := grown_trans g3 (grown_trans g4 g5)
  have hs5 : wc.heap.size ≤ w4.heap.size := Nat.le_trans g3.size g4.size
  have hL5 := hC.grown hGA
  have kA := (hGA.block _ (lt_of_heap k22) (by simp)).trans k22
  have kT := (hGA.block _ (lt_of_heap k12) (by simp)).trans k12
  have hcA : b2 < wc.heap.size := lt_of_heap k22
  have hcT : b1 < wc.heap.size := lt_of_heap k12
  have hR95 := hR9.grown g5
  have hg9 : (Value.slice a9 x.S.n c9).ownBlock ≠ some gc := fun p => by have := hR9.lt p; omega
  have hP3 := fun w => pickL B 3 (by omega) (by omega) hB1 hB2 w
  have hP2 := fun w => pickL B 2 (by omega) (by omega) hB1 hB2 w
  have hl3 := pk_lt B (n := 3) (by omega)
  have hl2 := pk_lt B (n := 2) (by omega)
  generalize pk B 3 = p3 at hP3 hl3
  generalize pk B 2 = p2 at hP2 hl2
  have HP3 := hide hP3
  have HP2 := hide hP2
  clear HLo hP3 hP2 k22 k12 hR8 hO8 hR9 hO9
  obtain ⟨n, hn⟩ : ∃ n, x.S.n = n := ⟨_, rfl⟩
  have HN := hide hn
  rw [hn] at hRc hq0 h8x hR95 hg9 hsnx ⊢
  clear hn
  go_wp2_with fail
  go_loopg [11] n (fun gk s11 wr => ∃ (i : Nat), s11 = .int .i64 i ∧ i ≤ n ∧ gk = n - i ∧ RowAt 3 1 (.slice (some ⟨gc, 0, none⟩) n n) (intRow (clk n (mix i (near p3 p2 q0) q0))) wr ∧ Fr [gc] w5 wr)
  case atStart => exact ⟨0, rfl, by omega, rfl, by have e : mix 0 (near p3 p2 q0) q0 = q0 := by { funext j; simp [mix] }; rw [e]; exact hRc, Fr.refl _ _⟩
  case round =>
    clear hRc
    obtain ⟨i2, rfl, hin, hgk, hR, hF⟩ := hrel
    have kAr := hF.blk kA (by simp; omega)
    by_cases hlt : i2 < n
    · have hlti : (i2 : Int) < (n : Int) := by omega
      have a3 : wr.cell? ⟨b2, 3, none⟩ = some (.int .i64 B) := cell_blk kAr 3
      have hqi := hq0 i2 hlt
      obtain ⟨g', c', cur', hv', -, hb', hx'⟩ := hR.cell (intRow_at (clk_at (mix i2 (near p3 p2 q0) q0) hlt))
      rw [intRow_len, clk_len] at hv'
      cases hv'
      have hmi : mix i2 (near p3 p2 q0) q0 i2 = q0 i2 := by unfold mix; rw [if_neg (by omega)]
      have d1 : wr.cell? ⟨gc, i2, none⟩ = some (.int .i64 (q0 i2)) := (cell_blk hb' _).trans (by rw [hmi] at hx'; simpa using hx' 0 _ rfl)
      have f1 : wr.frozen? ⟨gc, i2, none⟩ = false := frozen_blk hb' _
      have HR := hide hR
      clear hx' hb' hR hmi
      by_cases z3 : p3 = 0
      · have z3i : ((p3 : Int) == 0) = true := by simp [z3]
        have hnr : near p3 p2 q0 i2 = 0 := by unfold near; rw [if_pos z3]
        have hRS := hide (mix_set hlt HR.out 0 hnr)
        have hF' := hF.setCell (p := ⟨gc, i2, none⟩) (.inl (by simp)) (.int .i64 0)
        clear hnr z3
        go_wp2_with fail
        refine (HP3.out wr).mono ?_
        rintro e w' ⟨rfl, hw⟩
        rw [hw]
        clear hw w'
        go_wp2_with fail
        go_roundg (n - (i2 + 1))
        case measure => omega
        case rel => exact ⟨i2 + 1, by go_num, by omega, rfl, hRS.out, hF'⟩
      · have z3i : ((p3 : Int) == 0) = false := by simp; omega
        by_cases z2 : p2 = 1
        · have z2i : ((p2 : Int) == 1) = true := by simp [z2]
          by_cases zq : 0 < q0 i2
          · have hnr : near p3 p2 q0 i2 = q0 i2 - 1 := by unfold near; rw [if_neg z3, if_pos ⟨z2, zq⟩]
            have hRS := hide (mix_set hlt HR.out (q0 i2 - 1) hnr)
            have hF' := hF.setCell (p := ⟨gc, i2, none⟩) (.inl (by simp)) (.int .i64 (q0 i2 - 1))
            have hwq : IntKind.i64.wrap (q0 i2 - 1) = q0 i2 - 1 := by rw [IntKind.wrap_i64]; omega
            clear hnr z3 z2
            go_wp2_with fail
            refine (HP3.out wr).mono ?_
            rintro e w' ⟨rfl, hw⟩
            rw [hw]
            clear hw w'
            go_wp2_with fail
            refine (HP2.out wr).mono ?_
            rintro e w' ⟨rfl, hw⟩
            rw [hw]
            clear hw w'
            go_wp2_with fail
            go_roundg (n - (i2 + 1))
            case measure => omega
            case rel => exact ⟨i2 + 1, by go_num, by omega, rfl, hRS.out, hF'⟩
          · have hnr : near p3 p2 q0 i2 = q0 i2 := by unfold near; rw [if_neg z3, if_neg (by omega)]
            have hRS := hide (mix_stay hlt HR.out hnr)
            clear hnr z3 z2
            go_wp2_with fail
            refine (HP3.out wr).mono ?_
            rintro e w' ⟨rfl, hw⟩
            rw [hw]
            clear hw w'
            go_wp2_with fail
            refine (HP2.out wr).mono ?_
            rintro e w' ⟨rfl, hw⟩
            rw [hw]
            clear hw w'
            go_wp2_with fail
            go_roundg (n - (i2 + 1))
            case measure => omega
            case rel => exact ⟨i2 + 1, by go_num, by omega, rfl, hRS.out, hF⟩
        · have z2i : ((p2 : Int) == 1) = false := by simp; omega
          have hnr : near p3 p2 q0 i2 = q0 i2 := by unfold near; rw [if_neg z3, if_neg (by omega)]
          have hRS := hide (mix_stay hlt HR.out hnr)
          clear hnr z3 z2
          go_wp2_with fail
          refine (HP3.out wr).mono ?_
          rintro e w' ⟨rfl, hw⟩
          rw [hw]
          clear hw w'
          go_wp2_with fail
          refine (HP2.out wr).mono ?_
          rintro e w' ⟨rfl, hw⟩
          rw [hw]
          clear hw w'
          go_wp2_with fail
          go_roundg (n - (i2 + 1))
          case measure => omega
          case rel => exact ⟨i2 + 1, by go_num, by omega, rfl, hRS.out, hF⟩
    · obtain rfl : i2 = n := by omega
      rw [mix_full] at hR
      have hqn : ∀ i, i < i2 → 0 ≤ near p3 p2 q0 i ∧ near p3 p2 q0 i ≤ 100 := fun i hi => near_in (hq0 i hi)
      generalize near p3 p2 q0 = qn at hR hqn
      have kTr := hF.blk kT (by simp; omega)
      have a1 : wr.cell? ⟨b2, 1, none⟩ = some (.int .i64 C) := cell_blk kAr 1
      have hn0 : 0 < i2 := by omega
      have hPC := fun w => pickL C i2 hn0 (by omega) hC1 hC2 w
      have hlC := pk_lt C (n := i2) hn0
      generalize pk C i2 = pc at hPC hlC
      have HPC := hide hPC
      have hwc : IntKind.i64.wrap (1 + (pc : Int)) = 1 + (pc : Int) := by rw [IntKind.wrap_i64]; omega
      have HWr := hide (writeDigR (1 + (pc : Int)) (by omega) (by omega) i2 h8x qn hqn (.slice (some ⟨gc, 0, none⟩) i2 i2) (.slice none 0 0) wr hR)
      have hLr : WAt base wb L wr := hC.kept (fun q hq => (hF.block q (by have := hGA.size; omega) (by simp; omega)).trans (hGA.block q hq (by simp)))
      have hBr : Below base w wr := (hBc.grown hGA hbc (by simp)).trans (hF.toBelow (Nat.le_trans hbc hGA.size) (by simp; omega))
      have hbr : base ≤ wr.heap.size := Nat.le_trans hbc (Nat.le_trans hGA.size hF.size)
      clear hPC
      go_wp2_with fail
      refine (HPC.out wr).mono ?_
      rintro e w' ⟨rfl, hw⟩
      rw [hw]
      clear hw w'
      go_wp2_with fail
      refine HWr.out.mono ?_
      rintro e w6 ⟨rfl, g6⟩
      have z0 : w6.cell? ⟨b1, 0, none⟩ = some (.pointer (some ⟨x.cb, 0, none⟩)) := cell_of_grown (cell_blk kTr 0) g6
      have z1 : w6.cell? ⟨b1, 1, none⟩ = some (.pointer (some ⟨x.yb, 0, none⟩)) := cell_of_grown (cell_blk kTr 1) g6
      have HH : Hid (Calls Tryz.prog 14 #[.pointer (some ⟨wb, 0, none⟩), .agg #[.pointer (some ⟨x.cb, 0, none⟩), .pointer (some ⟨x.yb, 0, none⟩)], str (digest i2 (1 + (pc : Int)) qn)] w6 fun e w' => e = .returned (.bool true) ∧ ∃ L', Next L L' 1000 ∧ WAt base wb L' w' ∧ Below base w6 w') := by
        have := handles_d base wb L j x w6 (hLr.grown g6) HX.out (Nat.le_trans hbr g6.size) hlen hair (1 + (pc : Int)) (by omega) (by rw [HN.out]; omega) qn (by rw [HN.out]; exact hqn)
        rw [HN.out] at this
        exact this
      generalize digest i2 (1 + (pc : Int)) qn = D at HH ⊢
      clear HWr HPC
      go_wp2_with fail
      refine HH.out.mono ?_
      rintro e w7 ⟨rfl, L', hNx, hL7, hB7⟩
      go_wp2_with fail
      go_ret
      exact ⟨rfl, L', hNx, hL7, (hBr.grown g6 hbr (by simp)).trans hB7⟩

end Go.Proofs.YtachmkhbbbmioaaGreat
