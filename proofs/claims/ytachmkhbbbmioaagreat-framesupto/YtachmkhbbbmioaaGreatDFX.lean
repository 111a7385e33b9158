import Derived.Test.YtachmkhbbbmioaaGreatDAX
namespace Go.Proofs.YtachmkhbbbmioaaGreat
open Go.RowKit Go.Shelf

set_option maxRecDepth 100000 in
set_option maxHeartbeats 8000000 in
/-- A digest that the law makes is handled. -/
theorem digest_d (base wb : Nat) (L : LS) (j : Nat) (x : Pr) (w : World) (h0 : WAt base wb L w) (hj : L.prs[j]? = some x) (hb0 : base ≤ w.heap.size) (hlen : L.trs.length ≤ 2000000) (hair : L.air.length ≤ 4000000000) (hp0 : 0 < L.prs.length) (hp9 : L.prs.length ≤ 9)
    (k C A B : Int) (s : ByteArray) (hC1 : -9223372036854775808 ≤ C) (hC2 : C ≤ 9223372036854775807) (hA1 : -9223372036854775808 ≤ A) (hA2 : A ≤ 9223372036854775807) (hB1 : -9223372036854775808 ≤ B) (hB2 : B ≤ 9223372036854775807) :
    Calls Tryz.prog 67 #[.pointer (some ⟨wb, 0, none⟩), .agg #[.pointer (some ⟨x.cb, 0, none⟩), .pointer (some ⟨x.yb, 0, none⟩)], .agg #[.int .i64 k, .int .i64 C, .int .i64 A, .int .i64 B, .string s]] w fun e w' => e = .returned (.bool true) ∧ ∃ L', Next L L' 1000 ∧ WAt base wb L' w' ∧ Below base w w' := by
  have g1 : w.grownBy ((w.alloc (.cells #[.pointer (some ⟨x.cb, 0, none⟩), .pointer (some ⟨x.yb, 0, none⟩)] 39)).alloc (.cells #[.int .i64 k, .int .i64 C, .int .i64 A, .int .i64 B, .string s] 72)) none := grown_alloc (grown_alloc (grown_refl _) _) _
  have k1 : ((w.alloc (.cells #[.pointer (some ⟨x.cb, 0, none⟩), .pointer (some ⟨x.yb, 0, none⟩)] 39)).alloc (.cells #[.int .i64 k, .int .i64 C, .int .i64 A, .int .i64 B, .string s] 72)).heap[w.heap.size]? = some (.cells #[.pointer (some ⟨x.cb, 0, none⟩), .pointer (some ⟨x.yb, 0, none⟩)] 39) := by
    rw [Below.heap_alloc _ _ _ (by simp), heap_alloc_at]; simp
  have k2 : ((w.alloc (.cells #[.pointer (some ⟨x.cb, 0, none⟩), .pointer (some ⟨x.yb, 0, none⟩)] 39)).alloc (.cells #[.int .i64 k, .int .i64 C, .int .i64 A, .int .i64 B, .string s] 72)).heap[w.heap.size + 1]? = some (.cells #[.int .i64 k, .int .i64 C, .int .i64 A, .int .i64 B, .string s] 72) := by
    rw [heap_alloc_at]; simp
  go_enter Tryz.func67, Tryz.ntmps67
  go_upto_region 1 with fail
  generalize ((w.alloc (.cells #[.pointer (some ⟨x.cb, 0, none⟩), .pointer (some ⟨x.yb, 0, none⟩)] 39)).alloc (.cells #[.int .i64 k, .int .i64 C, .int .i64 A, .int .i64 B, .string s] 72)) = w1 at g1 k1 k2 ⊢
  have h := h0.grown g1
  have hb : base ≤ w1.heap.size := Nat.le_trans hb0 g1.size
  have hBw : Below base w w1 := (Below.refl _ w).grown g1 hb0 (by simp)
  generalize w.heap.size + 1 = b2 at k2 ⊢
  generalize w.heap.size = b1 at k1 ⊢
  clear h0 hb0 g1
  obtain ⟨i, hi⟩ : ∃ i, pk A L.prs.length = i := ⟨_, rfl⟩
  have hil : i < L.prs.length := hi ▸ pk_lt A hp0
  have hPk := fun w => pickL A L.prs.length hp0 (by omega) hA1 hA2 w
  rw [hi] at hPk
  clear hi
  obtain ⟨y, hy⟩ : ∃ y, L.prs[i]? = some y := ⟨L.prs[i], by simp [hil]⟩
  have c0 : w1.cell? ⟨wb, 0, none⟩ = some L.vl := cell_blk h.cp 0
  obtain ⟨gl, cl, cur, hvl, -, hbl, hcell⟩ := h.l.cell (i := i) (x := twoCells y) (by simp [hy])
  rw [List.length_map] at hvl
  rw [hvl] at c0
  have t0 : w1.cell? ⟨gl, i * 2, none⟩ = some (.pointer (some ⟨y.cb, 0, none⟩)) := (cell_blk hbl _).trans (hcell 0 _ rfl)
  have t1 : w1.cell? ⟨gl, i * 2 + 1, none⟩ = some (.pointer (some ⟨y.yb, 0, none⟩)) := (cell_blk hbl _).trans (hcell 1 _ rfl)
  have a2 : w1.cell? ⟨b2, 2, none⟩ = some (.int .i64 A) := cell_blk k2 2
  have hli : (i : Int) < (L.prs.length : Int) := by omega
  have HY := hide hy
  have HX := hide hj
  clear hy hj hcell hvl
  generalize hPL : L.prs.length = m at hli hil hPk c0 hp9 hp0
  have HPL := hide hPL
  clear hPL
  go_cut [7] (fun s7 wx => ∃ b7 : Nat, s7 = .pointer (some ⟨b7, 0, none⟩) ∧ wx.heap[b7]? = some (.cells #[.pointer (some ⟨y.cb, 0, none⟩), .pointer (some ⟨y.yb, 0, none⟩)] 39) ∧ w1.grownBy wx none)
  case first =>
    go_region_held3 (fun w' => w'.cell? ⟨wb, 0, none⟩ = some (.slice (some ⟨gl, 0, none⟩) m cl) ∧ w'.cell? ⟨b2, 2, none⟩ = some (.int .i64 A) ∧ w'.cell? ⟨gl, i * 2, none⟩ = some (.pointer (some ⟨y.cb, 0, none⟩)) ∧ w'.cell? ⟨gl, i * 2 + 1, none⟩ = some (.pointer (some ⟨y.yb, 0, none⟩))) (go_keep)
      (first | (go_at_call 12; refine (hPk _).mono ?_; rintro e w' ⟨rfl, hw⟩; rw [hw]; clear hw w'))
    all_goals
      go_wp2_with fail
      go_meet
      exact ⟨w1.heap.size, rfl, by rw [heap_drew, heap_alloc_at]; simp, grown_drew (grown_alloc (grown_refl _) _)⟩
  case rest =>
  obtain ⟨b7, rfl, k7, g7⟩ := hcut
  have hC := h.grown g7
  have k12 := (g7.block _ (lt_of_heap k1) (by simp)).trans k1
  have k22 := (g7.block _ (lt_of_heap k2) (by simp)).trans k2
  have hbc : base ≤ wc.heap.size := Nat.le_trans hb g7.size
  have hBc : Below base w wc := hBw.grown g7 hb (by simp)
  have e71 : wc.cell? ⟨b7, 1, none⟩ = some (.pointer (some ⟨y.yb, 0, none⟩)) := cell_blk k7 1
  have e11 : wc.cell? ⟨b1, 1, none⟩ = some (.pointer (some ⟨x.yb, 0, none⟩)) := cell_blk k12 1
  have hPy := hC.pr i y HY.out
  have hPx := hC.pr j x HX.out
  have h8y := hPy.good.n8
  have h8x := hPx.good.n8
  have hs1x := hPx.good.s1
  have hsnx := hPx.good.sn
  clear c0 t0 t1 a2 hbl hPk h k1 k2 g7 k7 hBw hb
  have HC1 := hide (ref_clock y.yb y.S _ _ _ _ _ _ wc hPy.rf h8y)
  go_wp2_with fail
  refine HC1.out.mono ?_
  rintro e w3 ⟨v8, rfl, hR8, hO8, g3⟩
  have e113 := cell_of_grown e11 g3
  have HC2 := hide (ref_clock x.yb x.S _ _ _ _ _ _ w3 (hPx.rf.grown g3) h8x)
  go_wp2_with fail
  refine HC2.out.mono ?_
  rintro e w4 ⟨v9, rfl, hR9, hO9, g4⟩
  rw [ckRow_int] at hR8 hR9
  obtain ⟨a9, c9, rfl, -⟩ := hR9.value
  rw [intRow_len, clk_len] at hR9 hO9 ⊢
  have hq0 : ∀ i, i < x.S.n → 0 ≤ partCk y.S.cl y.S.n i ∧ partCk y.S.cl y.S.n i ≤ 100 := fun i hi => by
    unfold partCk
    split
    · exact hPy.good.cl i (by omega)
    · omega
  have HLo := hide (longR x.S.n h8x y.S.n h8y y.S.cl (fun i hi => (hPy.good.cl i (by omega)).1) v8 w4 (hR8.grown g4))
  obtain ⟨q0, hq00⟩ : ∃ q0, partCk y.S.cl y.S.n = q0 := ⟨_, rfl⟩
  rw [hq00] at hq0 HLo
  clear hq00 HC1 HC2 e71 e11 e113
  go_wp2_with fail
  refine HLo.out.mono ?_
  rintro e w5 ⟨gc, rfl, hRc, hgc, g5⟩
  have hGA := grown_trans g3 (grown_trans g4 g5)
  have hs5 : wc.heap.size ≤ w4.heap.size := Nat.le_trans g3.size g4.size
  have hL5 := hC.grown hGA
  have kA := (hGA.block _ (lt_of_heap k22) (by simp)).trans k22
  have kT := (hGA.block _ (lt_of_heap k12) (by simp)).trans k12
  have hcA : b2 < wc.heap.size := lt_of_heap k22
  have hcT : b1 < wc.heap.size := lt_of_heap k12
  have hR95 := hR9.grown g5
  have hg9 : (Value.slice a9 x.S.n c9).ownBlock ≠ some gc := fun p => by have := hR9.lt p; omega
  have hP3 := fun w => pickL B 3 (by omega) (by omega) hB1 hB2 w
  have hP2 := fun w => pickL B 2 (by omega) (by omega) hB1 hB2 w
  have hl3 := pk_lt B (n := 3) (by omega)
  have hl2 := pk_lt B (n := 2) (by omega)
  generalize pk B 3 = p3 at hP3 hl3
  generalize pk B 2 = p2 at hP2 hl2
  have HP3 := hide hP3
  have HP2 := hide hP2
  clear HLo hP3 hP2 k22 k12 hR8 hO8 hR9 hO9
  obtain ⟨n, hn⟩ : ∃ n, x.S.n = n := ⟨_, rfl⟩
  have HN := hide hn
  rw [hn] at hRc hq0 h8x hR95 hg9 hsnx ⊢
  clear hn
  go_wp2_with fail
  go_loopg [11] n (fun gk s11 wr => ∃ (i : Nat), s11 = .int .i64 i ∧ i ≤ n ∧ gk = n - i ∧ RowAt 3 1 (.slice (some ⟨gc, 0, none⟩) n n) (intRow (clk n (mix i (near p3 p2 q0) q0))) wr ∧ Fr [gc] w5 wr)
  case atStart => exact ⟨0, rfl, by omega, rfl, by have e : mix 0 (near p3 p2 q0) q0 = q0 := by { funext j; simp [mix] }; rw [e]; exact hRc, Fr.refl _ _⟩
  case round =>
    clear hRc
    obtain ⟨i2, rfl, hin, hgk, hR, hF⟩ := hrel
    have kAr := hF.blk kA (by simp; omega)
    by_cases hlt : i2 < n
    · have hlti : (i2 : Int) < (n : Int) := by omega
      have a3 : wr.cell? ⟨b2, 3, none⟩ = some (.int .i64 B) := cell_blk kAr 3
      have hqi := hq0 i2 hlt
      obtain ⟨g', c', cur', hv', -, hb', hx'⟩ := hR.cell (intRow_at (clk_at (mix i2 (near p3 p2 q0) q0) hlt))
      rw [intRow_len, clk_len] at hv'
      cases hv'
      have hmi : mix i2 (near p3 p2 q0) q0 i2 = q0 i2 := by unfold mix; rw [if_neg (by omega)]
      have d1 : wr.cell? ⟨gc, i2, none⟩ = some (.int .i64 (q0 i2)) := (cell_blk hb' _).trans (by rw [hmi] at hx'; simpa using hx' 0 _ rfl)
      have f1 : wr.frozen? ⟨gc, i2, none⟩ = false := frozen_blk hb' _
      have HR := hide hR
      clear hx' hb' hR hmi
      by_cases z3 : p3 = 0
      · have z3i : ((p3 : Int) == 0) = true := by simp [z3]
        have hnr : near p3 p2 q0 i2 = 0 := by unfold near; rw [if_pos z3]
        have hRS := hide (mix_set hlt HR.out 0 hnr)
        have hF' := hF.setCell (p := ⟨gc, i2, none⟩) (.inl (by simp)) (.int .i64 0)
        clear hnr z3
        go_wp2_with fail
        refine (HP3.out wr).mono ?_
        rintro e w' ⟨rfl, hw⟩
        rw [hw]
        clear hw w'
        go_wp2_with fail
        go_roundg (n - (i2 + 1))
        case measure => omega
        case rel => exact ⟨i2 + 1, by go_num, by omega, rfl, hRS.out, hF'⟩
      · have z3i : ((p3 : Int) == 0) = false := by simp; omega
        by_cases z2 : p2 = 1
        · have z2i : ((p2 : Int) == 1) = true := by simp [z2]
          by_cases zq : 0 < q0 i2
          · have hnr : near p3 p2 q0 i2 = q0 i2 - 1 := by unfold near; rw [if_neg z3, if_pos ⟨z2, zq⟩]
            have hRS := hide (mix_set hlt HR.out (q0 i2 - 1) hnr)
            have hF' := hF.setCell (p := ⟨gc, i2, none⟩) (.inl (by simp)) (.int .i64 (q0 i2 - 1))
            have hwq : IntKind.i64.wrap (q0 i2 - 1) = q0 i2 - 1 := by rw [IntKind.wrap_i64]; omega
            clear hnr z3 z2
            go_wp2_with fail
            refine (HP3.out wr).mono ?_
            rintro e w' ⟨rfl, hw⟩
            rw [hw]
            clear hw w'
            go_wp2_with fail
            refine (HP2.out wr).mono ?_
            rintro e w' ⟨rfl, hw⟩
            rw [hw]
            clear hw w'
            go_wp2_with fail
            go_roundg (n - (i2 + 1))
            case measure => omega
            case rel => exact ⟨i2 + 1, by go_num, by omega, rfl, hRS.out, hF'⟩
          · have hnr : near p3 p2 q0 i2 = q0 i2 := by unfold near; rw [if_neg z3, if_neg (by omega)]
            have hRS := hide (mix_stay hlt HR.out hnr)
            clear hnr z3 z2
            go_wp2_with fail
            refine (HP3.out wr).mono ?_
            rintro e w' ⟨rfl, hw⟩
            rw [hw]
            clear hw w'
            go_wp2_with fail
            refine (HP2.out wr).mono ?_
            rintro e w' ⟨rfl, hw⟩
            rw [hw]
            clear hw w'
            go_wp2_with fail
            go_roundg (n - (i2 + 1))
            case measure => omega
            case rel => exact ⟨i2 + 1, by go_num, by omega, rfl, hRS.out, hF⟩
        · have z2i : ((p2 : Int) == 1) = false := by simp; omega
          have hnr : near p3 p2 q0 i2 = q0 i2 := by unfold near; rw [if_neg z3, if_neg (by omega)]
          have hRS := hide (mix_stay hlt HR.out hnr)
          clear hnr z3 z2
          go_wp2_with fail
          refine (HP3.out wr).mono ?_
          rintro e w' ⟨rfl, hw⟩
          rw [hw]
          clear hw w'
          go_wp2_with fail
          refine (HP2.out wr).mono ?_
          rintro e w' ⟨rfl, hw⟩
          rw [hw]
          clear hw w'
          go_wp2_with fail
          go_roundg (n - (i2 + 1))
          case measure => omega
          case rel => exact ⟨i2 + 1, by go_num, by omega, rfl, hRS.out, hF⟩
    · obtain rfl : i2 = n := by omega
      rw [mix_full] at hR
      have hqn : ∀ i, i < i2 → 0 ≤ near p3 p2 q0 i ∧ near p3 p2 q0 i ≤ 100 := fun i hi => near_in (hq0 i hi)
      generalize near p3 p2 q0 = qn at hR hqn
      have kTr := hF.blk kT (by simp; omega)
      have a1 : wr.cell? ⟨b2, 1, none⟩ = some (.int .i64 C) := cell_blk kAr 1
      have hn0 : 0 < i2 := by omega
      have hPC := fun w => pickL C i2 hn0 (by omega) hC1 hC2 w
      have hlC := pk_lt C (n := i2) hn0
      generalize pk C i2 = pc at hPC hlC
      have HPC := hide hPC
      have hwc : IntKind.i64.wrap (1 + (pc : Int)) = 1 + (pc : Int) := by rw [IntKind.wrap_i64]; omega
      have HWr := hide (writeDigR (1 + (pc : Int)) (by omega) (by omega) i2 h8x qn hqn (.slice (some ⟨gc, 0, none⟩) i2 i2) (.slice none 0 0) wr hR)
      have hLr : WAt base wb L wr := hC.kept (fun q hq => (hF.block q (by have := hGA.size; omega) (by simp; omega)).trans (hGA.block q hq (by simp)))
      have hBr : Below base w wr := (hBc.grown hGA hbc (by simp)).trans (hF.toBelow (Nat.le_trans hbc hGA.size) (by simp; omega))
      have hbr : base ≤ wr.heap.size := Nat.le_trans hbc (Nat.le_trans hGA.size hF.size)
      clear hPC
      go_wp2_with fail
      refine (HPC.out wr).mono ?_
      rintro e w' ⟨rfl, hw⟩
      rw [hw]
      clear hw w'
      go_wp2_with fail
      refine HWr.out.mono ?_
      rintro e w6 ⟨rfl, g6⟩
      have z0 : w6.cell? ⟨b1, 0, none⟩ = some (.pointer (some ⟨x.cb, 0, none⟩)) := cell_of_grown (cell_blk kTr 0) g6
      have z1 : w6.cell? ⟨b1, 1, none⟩ = some (.pointer (some ⟨x.yb, 0, none⟩)) := cell_of_grown (cell_blk kTr 1) g6
      have HH : Hid (Calls Tryz.prog 14 #[.pointer (some ⟨wb, 0, none⟩), .agg #[.pointer (some ⟨x.cb, 0, none⟩), .pointer (some ⟨x.yb, 0, none⟩)], str (digest i2 (1 + (pc : Int)) qn)] w6 fun e w' => e = .returned (.bool true) ∧ ∃ L', Next L L' 1000 ∧ WAt base wb L' w' ∧ Below base w6 w') := by
        have := handles_d base wb L j x w6 (hLr.grown g6) HX.out (Nat.le_trans hbr g6.size) hlen hair (1 + (pc : Int)) (by omega) (by rw [HN.out]; omega) qn (by rw [HN.out]; exact hqn)
        rw [HN.out] at this
        exact this
      generalize digest i2 (1 + (pc : Int)) qn = D at HH ⊢
      clear HWr HPC
      go_wp2_with fail
      refine HH.out.mono ?_
      rintro e w7 ⟨rfl, L', hNx, hL7, hB7⟩
      go_wp2_with fail
      go_ret
      exact ⟨rfl, L', hNx, hL7, (hBr.grown g6 hbr (by simp)).trans hB7⟩

end Go.Proofs.YtachmkhbbbmioaaGreat

namespace Go.Proofs.YtachmkhbbbmioaaGreat
open Go.RowKit Go.Shelf

theorem Next.mono {L L' : LS} {m m' : Nat} (h : Next L L' m) (hm : m ≤ m') : Next L L' m' := ⟨h.vl, h.prs, h.irs, h.trs, Nat.le_trans h.air (Nat.add_le_add_left hm _), h.ne⟩

set_option maxRecDepth 100000 in
set_option maxHeartbeats 8000000 in
/-- One act. -/
theorem act_d (base wb : Nat) (L : LS) (k C A B : Int) (s : ByteArray) (w : World) (h0 : WAt base wb L w) (hb0 : base ≤ w.heap.size) (hlen : L.irs.length ≤ 2000000) (hlen2 : L.trs.length ≤ 2000000) (hair : L.air.length ≤ 4000000000) (hp0 : 0 < L.prs.length) (hp9 : L.prs.length ≤ 9)
    (hC1 : -9223372036854775808 ≤ C) (hC2 : C ≤ 9223372036854775807) (hA1 : -9223372036854775808 ≤ A) (hA2 : A ≤ 9223372036854775807) (hB1 : -9223372036854775808 ≤ B) (hB2' : B ≤ 9223372036854775807) (hk : k ≤ 7 ∨ k = 11 ∨ k = 12) :
    Calls Tryz.prog 34 #[.pointer (some ⟨wb, 0, none⟩), .agg #[.int .i64 k, .int .i64 C, .int .i64 A, .int .i64 B, .string s]] w fun e w' => e = .returned (.bool true) ∧ ∃ L', Next L L' 1000 ∧ WAt base wb L' w' ∧ Below base w w' := by
  have g1 : w.grownBy (w.alloc (.cells #[.int .i64 k, .int .i64 C, .int .i64 A, .int .i64 B, .string s] 72)) none := grown_alloc (grown_refl _) _
  have k1 : (w.alloc (.cells #[.int .i64 k, .int .i64 C, .int .i64 A, .int .i64 B, .string s] 72)).heap[w.heap.size]? = some (.cells #[.int .i64 k, .int .i64 C, .int .i64 A, .int .i64 B, .string s] 72) := by
    rw [heap_alloc_at]; simp
  go_enter Tryz.func34, Tryz.ntmps34
  go_upto_region 1 with fail
  generalize (w.alloc (.cells #[.int .i64 k, .int .i64 C, .int .i64 A, .int .i64 B, .string s] 72)) = w1 at g1 k1 ⊢
  have h := h0.grown g1
  obtain ⟨b1, hb1e⟩ : ∃ b1, w.heap.size = b1 := ⟨_, rfl⟩
  have hb1 := hb0
  rw [hb1e] at k1 ⊢
  obtain ⟨i, hi⟩ : ∃ i, pk C L.prs.length = i := ⟨_, rfl⟩
  have hil : i < L.prs.length := hi ▸ pk_lt C hp0
  have hPk := fun w => pickL C L.prs.length hp0 (by omega) hC1 hC2 w
  rw [hi] at hPk
  clear hi
  obtain ⟨x, hx⟩ : ∃ x, L.prs[i]? = some x := ⟨L.prs[i], by simp [hil]⟩
  have c0 : w1.cell? ⟨wb, 0, none⟩ = some L.vl := cell_blk h.cp 0
  obtain ⟨gl, cl, cur, hvl, -, hbl, hcell⟩ := h.l.cell (i := i) (x := twoCells x) (by simp [hx])
  rw [List.length_map] at hvl
  rw [hvl] at c0
  have t0 : w1.cell? ⟨gl, i * 2, none⟩ = some (.pointer (some ⟨x.cb, 0, none⟩)) := (cell_blk hbl _).trans (hcell 0 _ rfl)
  have t1 : w1.cell? ⟨gl, i * 2 + 1, none⟩ = some (.pointer (some ⟨x.yb, 0, none⟩)) := (cell_blk hbl _).trans (hcell 1 _ rfl)
  have a1 : w1.cell? ⟨b1, 1, none⟩ = some (.int .i64 C) := cell_blk k1 1
  have hli : (i : Int) < (L.prs.length : Int) := by omega
  have HX := hide hx
  have HK := hide hk
  clear hx hk hcell
  generalize hPL : L.prs.length = m at hli hil hPk c0 hp9 hp0
  go_cut [5] (fun s5 wx => ∃ b5 : Nat, s5 = .pointer (some ⟨b5, 0, none⟩) ∧ wx.heap[b5]? = some (.cells #[.pointer (some ⟨x.cb, 0, none⟩), .pointer (some ⟨x.yb, 0, none⟩)] 39) ∧ w1.grownBy wx none)
  case first =>
    go_region_held3 (fun w' => w'.cell? ⟨wb, 0, none⟩ = some (.slice (some ⟨gl, 0, none⟩) m cl) ∧ w'.cell? ⟨b1, 1, none⟩ = some (.int .i64 C) ∧ w'.cell? ⟨gl, i * 2, none⟩ = some (.pointer (some ⟨x.cb, 0, none⟩)) ∧ w'.cell? ⟨gl, i * 2 + 1, none⟩ = some (.pointer (some ⟨x.yb, 0, none⟩))) (go_keep)
      (first | (go_at_call 12; refine (hPk _).mono ?_; rintro e w' ⟨rfl, hw⟩; rw [hw]; clear hw w'))
    all_goals
      go_wp2_with fail
      go_meet
      exact ⟨w1.heap.size, rfl, by rw [heap_drew, heap_alloc_at]; simp, grown_drew (grown_alloc (grown_refl _) _)⟩
  case rest =>
  obtain ⟨b5, rfl, k5, g5⟩ := hcut
  have h2 := h.grown g5
  have k2 := (g5.block _ (lt_of_heap k1) (by simp)).trans k1
  have g2 := grown_trans g1 g5
  have hb2 : base ≤ wc.heap.size := Nat.le_trans hb1 (Nat.le_trans g1.size g5.size)
  have hB2 : Below base w wc := (Below.refl _ w).grown g2 hb1 (by simp)
  clear t0 t1 a1 c0 hbl hPk h h0 g1 g5 g2 k1 hli
  have a0 : wc.cell? ⟨b1, 0, none⟩ = some (.int .i64 k) := cell_blk k2 0
  have a1 : wc.cell? ⟨b1, 1, none⟩ = some (.int .i64 C) := cell_blk k2 1
  have a2 : wc.cell? ⟨b1, 2, none⟩ = some (.int .i64 A) := cell_blk k2 2
  have a3 : wc.cell? ⟨b1, 3, none⟩ = some (.int .i64 B) := cell_blk k2 3
  have a4 : wc.cell? ⟨b1, 4, none⟩ = some (.string s) := cell_blk k2 4
  have t0 : wc.cell? ⟨b5, 0, none⟩ = some (.pointer (some ⟨x.cb, 0, none⟩)) := cell_blk k5 0
  have t1 : wc.cell? ⟨b5, 1, none⟩ = some (.pointer (some ⟨x.yb, 0, none⟩)) := cell_blk k5 1
  have end_write : ∀ {w3 : World}, After x wc w3 → ∃ L', Next L L' 1000 ∧ WAt base wb L' w3 ∧ Below base w w3 := by
    intro w3 hA
    obtain ⟨x', hPx, hx1, hx2, hFx, hOx⟩ := hA
    obtain ⟨hL, hB⟩ := h2.after HX.out hb2 hPx hx1 hx2 hFx hOx
    refine ⟨_, ?_, hL, hB2.trans hB⟩
    exact ⟨rfl, by simp, Nat.le_succ _, Nat.le_succ _, Nat.le_add_right _ _, fun h => h⟩
  have HW := hide (fun k C A B s => writes_any wb x k C A B s wc (h2.pr i x HX.out))
  have HA := hide (asks_d base wb L i x wc h2 HX.out hb2 hlen hair)
  by_cases q1 : k = 1
  · subst q1
    go_wp2_with fail
    refine (HW.out _ _ _ _ _).mono ?_
    rintro e w3 ⟨rfl, hA⟩
    go_wp2_with fail
    go_ret
    exact ⟨rfl, end_write hA⟩
  by_cases q2 : k = 2
  · subst q2
    go_wp2_with fail
    refine (HW.out _ _ _ _ _).mono ?_
    rintro e w3 ⟨rfl, hA⟩
    go_wp2_with fail
    go_ret
    exact ⟨rfl, end_write hA⟩
  by_cases q3 : k = 3
  · subst q3
    go_wp2_with fail
    refine (HA.out 3 (by omega)).mono ?_
    rintro e w3 ⟨rfl, L', hN3, -, hL3, hB3⟩
    go_wp2_with fail
    go_ret
    exact ⟨rfl, L', hN3.mono (by omega), hL3, hB2.trans hB3⟩
  by_cases q4 : k = 4
  · subst q4
    go_wp2_with fail
    refine (HA.out 4 (by omega)).mono ?_
    rintro e w3 ⟨rfl, L', hN3, -, hL3, hB3⟩
    go_wp2_with fail
    go_ret
    exact ⟨rfl, L', hN3.mono (by omega), hL3, hB2.trans hB3⟩
  by_cases q5 : k = 5
  · subst q5
    go_wp2_with fail
    refine (HA.out 5 (by omega)).mono ?_
    rintro e w3 ⟨rfl, L', hN3, -, hL3, hB3⟩
    go_wp2_with fail
    go_ret
    exact ⟨rfl, L', hN3.mono (by omega), hL3, hB2.trans hB3⟩
  by_cases q6 : k = 6
  · subst q6
    go_wp2_with fail
    refine (HA.out 6 (by omega)).mono ?_
    rintro e w3 ⟨rfl, L', hN3, -, hL3, hB3⟩
    go_wp2_with fail
    go_ret
    exact ⟨rfl, L', hN3.mono (by omega), hL3, hB2.trans hB3⟩
  by_cases q7 : k = 7
  · subst q7
    go_wp2_with fail
    refine (HA.out 7 (by omega)).mono ?_
    rintro e w3 ⟨rfl, L', hN3, -, hL3, hB3⟩
    go_wp2_with fail
    go_ret
    exact ⟨rfl, L', hN3.mono (by omega), hL3, hB2.trans hB3⟩
  have end_same : ∀ {w3 : World}, Below wc.heap.size wc w3 → ∃ L', Next L L' 1000 ∧ WAt base wb L' w3 ∧ Below base w w3 := by
    intro w3 hB
    exact ⟨L, Next.refl L 1000, h2.below hB, hB2.trans (hB.mono hb2)⟩
  by_cases q12 : k = 12
  · subst q12
    have HD := hide (digest_d base wb L i x wc h2 HX.out hb2 hlen2 hair (by omega) (by omega) 12 C A B s hC1 hC2 hA1 hA2 hB1 hB2')
    go_wp2_with fail
    refine HD.out.mono ?_
    rintro e w3 ⟨rfl, L', hN3, hL3, hB3⟩
    go_wp2_with fail
    go_ret
    exact ⟨rfl, L', hN3, hL3, hB2.trans hB3⟩
  by_cases q11 : k = 11
  · subst q11
    have HB := hide (begins_out wb A B wc)
    go_wp2_with fail
    refine HB.out.mono ?_
    rintro e w3 ⟨rfl, hB3⟩
    go_wp2_with fail
    go_ret
    exact ⟨rfl, end_same hB3⟩
  · have hk0 : k ≤ 0 := by have := HK.out; omega
    have e1 : (k == 1) = false := by simp; omega
    have e2 : (k == 2) = false := by simp; omega
    have e3 : (k == 3) = false := by simp; omega
    have e4 : (k == 4) = false := by simp; omega
    have e5 : (k == 5) = false := by simp; omega
    have e6 : (k == 6) = false := by simp; omega
    have e7 : (k == 7) = false := by simp; omega
    have e8 : (k == 8) = false := by simp; omega
    have e9 : (k == 9) = false := by simp; omega
    have e10 : (k == 10) = false := by simp; omega
    have e11 : (k == 11) = false := by simp; omega
    have e12 : (k == 12) = false := by simp; omega
    clear q1 q2 q3 q4 q5 q6 q7 q11 q12
    go_wp2_with fail
    go_ret
    exact ⟨rfl, end_same (Below.refl _ _)⟩

end Go.Proofs.YtachmkhbbbmioaaGreat

namespace Go.Proofs.YtachmkhbbbmioaaGreat
open Go.RowKit Go.Shelf

theorem tdiv_range (b : Int) (n : Nat) (hn : 0 < n) (hb1 : -9223372036854775808 ≤ b) (hb2 : b ≤ 9223372036854775807) : -9223372036854775808 ≤ b.tdiv n ∧ b.tdiv n ≤ 9223372036854775807 := by
  have key : ∀ m : Int, 0 ≤ m → 0 ≤ m.tdiv n ∧ m.tdiv n ≤ m := fun m hm => ⟨Int.tdiv_nonneg hm (by omega), Int.tdiv_le_self _ hm⟩
  rcases Int.le_total 0 b with h | h
  · have := key b h; omega
  · have h2 := key (-b) (by omega)
    have e : b.tdiv n = -((-b).tdiv n) := by rw [Int.neg_tdiv]; omega
    omega


set_option maxRecDepth 100000 in
set_option maxHeartbeats 4000000 in
theorem spoiltL (s : List UInt8) (hs : SOk s) (b : Int) (hb1 : -9223372036854775808 ≤ b) (hb2 : b ≤ 9223372036854775807) (w : World) :
    Calls Tryz.prog 93 #[str s, .int .i64 b] w fun e w' => ∃ t : List UInt8, e = .returned (str t) ∧ w.grownBy w' none := by
  have h0 : 0 < s.length := by cases s with | nil => exact (hs.1 rfl).elim | cons a l => simp
  have hl := hs.2
  have hP1 := fun w => pickL b s.length h0 (by omega) hb1 hb2 w
  have hil := pk_lt b h0
  have HP2 := hide (fun c h1 h2 w => pickL c 8 (by omega) (by omega) h1 h2 w)
  generalize pk b s.length = i at hP1 hil
  have HP1 := hide hP1
  clear hP1
  have hne : ¬ (s.length : Int) = 0 := by omega
  go_enter Tryz.func93, Tryz.ntmps93
  go_wp2_with fail
  refine (HP1.out _).mono ?_
  rintro e w1 ⟨rfl, rfl⟩
  go_wp2_with fail
  obtain ⟨q1, q2⟩ := tdiv_range b s.length h0 hb1 hb2
  have hm8 := pk_lt (b.tdiv s.length) (n := 8) (by omega)
  have HP3 := hide (HP2.out (b.tdiv s.length) q1 q2)
  generalize pk (b.tdiv s.length) 8 = m at HP3 hm8
  refine (HP3.out _).mono ?_
  rintro e w2 ⟨rfl, rfl⟩
  obtain ⟨c, hc⟩ : ∃ c, s[i]? = some c := ⟨s[i], by simp [hil]⟩
  have hix : ∀ w, (Instr.index 9 (str s) (.int .i64 (i : Int))).run Tryz.prog w = .ok (.int .u8 (c.toNat : Int)) w := fun w => sindex s i c hc w
  have hsl := fun w => str_take s i (by omega) w
  have hsd := fun w => str_drop s (i + 1) (by omega) w
  have hwi : IntKind.i64.wrap ((i : Int) + 1) = (i : Int) + 1 := by rw [IntKind.wrap_i64]; omega
  rw [show ((i + 1 : Nat) : Int) = (i : Int) + 1 by omega] at hsd
  have hX : 0 ≤ bits .xor .u8 (c.toNat : Int) (2 ^ m % 256) ∧ bits .xor .u8 (c.toNat : Int) (2 ^ m % 256) < 256 := by
    show 0 ≤ IntKind.u8.wrap _ ∧ IntKind.u8.wrap _ < 256
    rw [IntKind.wrap_u8]
    omega
  have hcv := fun (w : World) (a : Nat) (h : w.cell? ⟨a, 0, none⟩ = some (.int .u8 (bits .xor .u8 (c.toNat : Int) (2 ^ m % 256)))) => @conv1 w a _ h hX.1 hX.2
  clear hX hc
  go_wp2_with fail
  go_region
  all_goals
    go_wp2_with fail
    generalize ((⟨(s.take i).toArray⟩ : ByteArray) ++ ⟨#[UInt8.ofNat (bits .xor .u8 (c.toNat : Int) (2 ^ m % 256)).toNat]⟩ ++ ⟨(s.drop (i + 1)).toArray⟩) = BB
    exact bodyPost_ret (v := .string BB) (by simp [results, Tryz.results93, go_sem]) rfl ⟨BB.data.toList, by cases BB; simp, by repeat (first | exact grown_refl _ | refine grown_drew ?_ | refine grown_alloc ?_ _)⟩

set_option maxRecDepth 100000 in
set_option maxHeartbeats 8000000 in
theorem flies_any (base wb : Nat) (L : LS) (j : Nat) (x : Pr) (w : World) (h0 : WAt base wb L w) (hj : L.prs[j]? = some x) (hb0 : base ≤ w.heap.size) (hlen : L.trs.length ≤ 2000000) (hair : L.air.length ≤ 4000000000) (hne : ∀ s ∈ L.air, SOk s)
    (k C A B : Int) (s0 : ByteArray) (hk : k = 9 ∨ k = 10) (hA1 : -9223372036854775808 ≤ A) (hA2 : A ≤ 9223372036854775807) (hB1 : -9223372036854775808 ≤ B) (hB2 : B ≤ 9223372036854775807) :
    Calls Tryz.prog 66 #[.pointer (some ⟨wb, 0, none⟩), .agg #[.pointer (some ⟨x.cb, 0, none⟩), .pointer (some ⟨x.yb, 0, none⟩)], .agg #[.int .i64 k, .int .i64 C, .int .i64 A, .int .i64 B, .string s0]] w fun e w' => e = .returned (.bool true) ∧ ∃ L', Next L L' 1000 ∧ WAt base wb L' w' ∧ Below base w w' := by
  have g1 : w.grownBy ((w.alloc (.cells #[.pointer (some ⟨x.cb, 0, none⟩), .pointer (some ⟨x.yb, 0, none⟩)] 39)).alloc (.cells #[.int .i64 k, .int .i64 C, .int .i64 A, .int .i64 B, .string s0] 72)) none := grown_alloc (grown_alloc (grown_refl _) _) _
  have k1 : ((w.alloc (.cells #[.pointer (some ⟨x.cb, 0, none⟩), .pointer (some ⟨x.yb, 0, none⟩)] 39)).alloc (.cells #[.int .i64 k, .int .i64 C, .int .i64 A, .int .i64 B, .string s0] 72)).heap[w.heap.size]? = some (.cells #[.pointer (some ⟨x.cb, 0, none⟩), .pointer (some ⟨x.yb, 0, none⟩)] 39) := by
    simp only [heap_alloc_at, World.size_alloc]; simp
  have k2 : ((w.alloc (.cells #[.pointer (some ⟨x.cb, 0, none⟩), .pointer (some ⟨x.yb, 0, none⟩)] 39)).alloc (.cells #[.int .i64 k, .int .i64 C, .int .i64 A, .int .i64 B, .string s0] 72)).heap[w.heap.size + 1]? = some (.cells #[.int .i64 k, .int .i64 C, .int .i64 A, .int .i64 B, .string s0] 72) := by
    simp only [heap_alloc_at, World.size_alloc]; simp
  go_enter Tryz.func66, Tryz.ntmps66
  go_upto_region 1 with fail
  generalize ((w.alloc (.cells #[.pointer (some ⟨x.cb, 0, none⟩), .pointer (some ⟨x.yb, 0, none⟩)] 39)).alloc (.cells #[.int .i64 k, .int .i64 C, .int .i64 A, .int .i64 B, .string s0] 72)) = w1 at g1 k1 k2 ⊢
  have h := h0.grown g1
  have hb : base ≤ w1.heap.size := Nat.le_trans hb0 g1.size
  have hBw1 : Below base w w1 := (Below.refl _ w).grown g1 hb0 (by simp)
  obtain ⟨b1, hb1e⟩ : ∃ b1, w.heap.size = b1 := ⟨_, rfl⟩
  rw [hb1e] at k1 k2 ⊢
  obtain ⟨b2, hb2e⟩ : ∃ b2, b1 + 1 = b2 := ⟨_, rfl⟩
  rw [hb2e] at k2 ⊢
  have ht0 : w1.cell? ⟨b1, 0, none⟩ = some (.pointer (some ⟨x.cb, 0, none⟩)) := cell_blk k1 0
  have ht1 : w1.cell? ⟨b1, 1, none⟩ = some (.pointer (some ⟨x.yb, 0, none⟩)) := cell_blk k1 1
  have ha0 : w1.cell? ⟨b2, 0, none⟩ = some (.int .i64 k) := cell_blk k2 0
  have ha2 : w1.cell? ⟨b2, 2, none⟩ = some (.int .i64 A) := cell_blk k2 2
  have ha3 : w1.cell? ⟨b2, 3, none⟩ = some (.int .i64 B) := cell_blk k2 3
  obtain ⟨aa, ca, hva, -⟩ := h.ar.value
  rw [strRow_len] at hva
  have y1 : w1.cell? ⟨wb, 1, none⟩ = some (.slice aa L.air.length ca) := by rw [← hva]; exact cell_blk h.cp 1
  have Nb1 := hide (fun k hk => by have := (h0.pr j x hj).lt k hk; omega : ∀ k ∈ x.own, k < b1)
  have hb12 : b1 < b2 := by omega
  clear h0 hb1e hb2e
  by_cases hl0 : L.air.length = 0
  · have hl0i : (L.air.length : Int) = 0 := by omega
    rw [hl0] at y1
    go_wp2_with fail
    go_ret
    exact ⟨rfl, L, Next.refl L 1000, h, hBw1⟩
  · have hz : ((L.air.length : Int) == 0) = false := by rw [beq_eq_false_iff_ne]; omega
    have hpos : 0 < L.air.length := by omega
    have HPk := hide (fun n : Nat => pickL A L.air.length hpos (by omega) hA1 hA2 (w1.drewN n))
    have hil := pk_lt A hpos
    generalize pk A L.air.length = i at HPk hil
    have hili : (i : Int) < (L.air.length : Int) := by omega
    obtain ⟨s, hs⟩ : ∃ s, L.air[i]? = some s := ⟨L.air[i], by simp [hil]⟩
    have hsok := hne s (List.mem_of_getElem? hs)
    obtain ⟨ga, ca', cur, hva', -, hba, hca⟩ := h.ar.cell (i := i) (x := [str s]) (by simp [strRow, hs])
    rw [strRow_len, hva] at hva'
    cases hva'
    have r0 : w1.cell? ⟨ga, i, none⟩ = some (str s) := (cell_blk hba _).trans (by simpa using hca 0 _ rfl)
    have HVA := hide hva
    have HS := hide hs
    clear hca hba hva hs hl0
    generalize hn : L.air.length = n at hz hpos hil hili y1 HPk HVA
    have HN := hide hn
    clear hn
    go_wp2_with fail
    go_quiet ((go_at_call 12; exact Calls.quiet_of_same (HPk.out _)))
    have g2 : w1.grownBy (w1.drewN nq) none := grown_drewN _ _
    generalize w1.drewN nq = w2 at g2 ⊢
    have h2 := h.grown g2
    have hb2 : base ≤ w2.heap.size := Nat.le_trans hb g2.size
    have hBw2 : Below base w w2 := hBw1.grown g2 hb (by simp)
    have kk1 := (g2.block _ (lt_of_heap k1) (by simp)).trans k1
    have kk2 := (g2.block _ (lt_of_heap k2) (by simp)).trans k2
    have n1 : b1 ∉ x.own := by
      intro q
      have := Nb1.out b1 q
      omega
    have n2 : b2 ∉ x.own := by
      intro q
      have := Nb1.out b2 q
      omega
    have t0 := cell_of_grown ht0 g2
    have t1 := cell_of_grown ht1 g2
    have a0 := cell_of_grown ha0 g2
    have a3 := cell_of_grown ha3 g2
    have z1 := cell_of_grown y1 g2
    have z0 := cell_of_grown r0 g2
    have har : RowAt 9 1 (.slice (some ⟨ga, 0, none⟩) n ca) (strRow L.air) w2 := by rw [← HVA.out]; exact h2.ar
    clear ht0 ht1 ha0 ha2 ha3 y1 r0 h hb hBw1 g2 k1 k2 HPk g1
    have HE : Hid (∀ L1 : LS, L1.vl = L.vl → L1.prs = L.prs → L1.irs = L.irs → L1.trs = L.trs → L1.air.length ≤ L.air.length → (∀ s ∈ L1.air, s ∈ L.air) → ∀ L', Next L1 L' 1000 → Next L L' 1000) := hide (fun L1 e1 e2 e3 e4 e5 e6 L' hN => ⟨hN.vl.trans e1, by rw [hN.prs, e2], by have := hN.irs; rw [e3] at this; exact this, by have := hN.trs; rw [e4] at this; exact this, by have := hN.air; omega, fun q => hN.ne (fun t ht => q t (e6 t ht))⟩)
    rcases hk with rfl | rfl
    · by_cases hB : 0 ≤ B
      · obtain ⟨u1, hs1, hsrc1⟩ := har.lo (t := 26) (by kernel_rfl) (fun w => by kernel_rfl) i (by rw [strRow_len, HN.out]; omega)
        obtain ⟨u2, hs2, hsrc2⟩ := har.hi (t := 26) (by kernel_rfl) (fun w => by kernel_rfl) (i + 1) (by rw [strRow_len, HN.out]; omega)
        rw [show ((i + 1 : Nat) : Int) = (i : Int) + 1 by omega] at hs2
        have hwi : IntKind.i64.wrap ((i : Int) + 1) = (i : Int) + 1 := by rw [IntKind.wrap_i64]; have := HN.out; omega
        have hq1 := hsrc1 w2 (fun _ _ => rfl)
        have hnil := row_nil 9 1 w2
        have hl1 : ((strRow L.air).take i).length ≤ 4000000000 := by rw [List.length_take, strRow_len]; omega
        have hl2 : ((strRow L.air).drop (i + 1)).length ≤ 4000000000 := by rw [List.length_drop, strRow_len]; omega
        clear hsrc1
        go_upto_region 10 with (at_builtin; refine wpList_row Tryz.underlying26 infoStr rfl (by decide) rfl _ _ rfl (.slice none 0 0) [] rfl hnil u1 _ rfl hq1 (fun z hz => strRow_one _ z (List.mem_of_mem_take hz)) (fun z hz => strRow_cell _ z (List.mem_of_mem_take hz)) (by unfold maxLen; simp only [List.length_nil]; omega) (by simp only [List.length_nil]; omega) ?_; intro v1 w8 hR8 hg8 hat8)
        have hv1 : ∀ b, v1.ownBlock = some b → w2.heap.size ≤ b := by
          intro b hb
          rcases hat8 with q | q
          · rw [q] at hb; cases hb
          · rw [q] at hb; cases hb; exact Nat.le_refl _
        rw [List.nil_append] at hR8
        have K8 : ∀ k, k < w2.heap.size → w8.heap[k]? = w2.heap[k]? := fun k hk => hg8.block k hk (by simp [Value.ownBlock])
        have hs8 : w2.heap.size ≤ w8.heap.size := hg8.size
        have hF8 : Fr (wb :: L.va.ownBlock.toList) w2 w8 := (Fr.refl _ w2).grown hg8 (by simp [Value.ownBlock])
        have z18 : w8.cell? ⟨wb, 1, none⟩ = some (.slice (some ⟨ga, 0, none⟩) n ca) := (World.cell?_of_block (a := ⟨wb, 1, none⟩) (K8 wb (lt_of_heap h2.cp))).trans z1
        have hq2 := hsrc2 w8 (fun g hg => K8 g (har.lt hg))
        clear hg8 hat8 hq1 hnil hs1 hsrc2
        have F10 : Hid (∀ (w10 : World), w8.grownBy w10 v1.ownBlock → (∀ k, k < w2.heap.size → w10.heap[k]? = w2.heap[k]?) ∧ w10.cell? ⟨wb, 1, none⟩ = some (.slice (some ⟨ga, 0, none⟩) n ca) ∧ w10.frozen? ⟨wb, 1, none⟩ = false) := hide (by
          intro w10 hg10
          have K10 : ∀ k, k < w2.heap.size → w10.heap[k]? = w2.heap[k]? := fun k hk => (hg10.block k (by omega) (fun q => by have := hv1 k q.symm; omega)).trans (K8 k hk)
          have hy := (K10 wb (lt_of_heap h2.cp)).trans h2.cp
          exact ⟨K10, (World.cell?_of_block (a := ⟨wb, 1, none⟩) (K10 wb (lt_of_heap h2.cp))).trans z1, frozen_blk hy 1⟩)
        go_upto_region 11 with (at_builtin; refine wpList_row Tryz.underlying26 infoStr rfl (by decide) rfl _ _ rfl v1 _ rfl hR8 u2 _ rfl hq2 (fun z hz => strRow_one _ z (List.mem_of_mem_drop hz)) (fun z hz => strRow_cell _ z (List.mem_of_mem_drop hz)) (by unfold maxLen; omega) (by omega) ?_; intro v3 w10 hR10 hg10 hat10; obtain ⟨K10, y6, f6⟩ := F10.out w10 hg10; obtain ⟨a3', c3, hv3, -⟩ := hR10.value; generalize hn3 : ((strRow L.air).take i ++ (strRow L.air).drop (i + 1)).length = n3 at hv3; clear hn3; subst hv3)
        have hv3 : ∀ b, (Value.slice a3' n3 c3).ownBlock = some b → w2.heap.size ≤ b := by
          intro b hb
          rcases hat10 with q | q
          · exact hv1 b (q ▸ hb)
          · rw [q] at hb; cases hb; omega
        have k10 := (K10 wb (lt_of_heap h2.cp)).trans h2.cp
        have hwbn : (Value.slice a3' n3 c3).ownBlock ≠ some wb := fun q => by have := hv3 wb q; have := lt_of_heap h2.cp; omega
        have eR : strRow (L.air.take i ++ L.air.drop (i + 1)) = (strRow L.air).take i ++ (strRow L.air).drop (i + 1) := by simp [strRow]
        obtain ⟨hL1, hB1'⟩ := h2.aired (w' := w10.setCell ⟨wb, 1, none⟩ (.slice a3' n3 c3)) (va' := .slice a3' n3 c3) (air' := L.air.take i ++ L.air.drop (i + 1)) hb2 ((set_blk k10).trans rfl)
          (by rw [eR]; exact hR10.kept (fun g hg => Below.heap_setCell _ _ _ _ (fun e => hwbn (by have e' : g = wb := e; rw [← e']; exact hg))))
          ((hF8.grown hg10 (fun k hk => .inr (by have := hv1 k hk; omega))).setCell (p := ⟨wb, 1, none⟩) (.inl (by simp)) _) (fun k hk => .inr (hv3 k hk))
        have nb1 : b1 ≠ wb := fun q => by rw [q, h2.cp] at kk1; simp at kk1
        have kx1 : (w10.setCell ⟨wb, 1, none⟩ (.slice a3' n3 c3)).heap[b1]? = some (.cells #[.pointer (some ⟨x.cb, 0, none⟩), .pointer (some ⟨x.yb, 0, none⟩)] 39) := ((Below.heap_setCell _ _ _ _ nb1).trans (K10 b1 (lt_of_heap kk1))).trans kk1
        have hb11 : base ≤ (w10.setCell ⟨wb, 1, none⟩ (.slice a3' n3 c3)).heap.size := Nat.le_trans hb2 hB1'.size
        have HL1 : Hid ((L.air.take i ++ L.air.drop (i + 1)).length ≤ L.air.length ∧ ∀ t ∈ L.air.take i ++ L.air.drop (i + 1), t ∈ L.air) := hide ⟨by simp; omega, fun t ht => (List.mem_append.1 ht).elim List.mem_of_mem_take List.mem_of_mem_drop⟩
        have HH := hide (handles_any base wb { L with va := .slice a3' n3 c3, air := L.air.take i ++ L.air.drop (i + 1) } j x _ hL1 hj hb11 hlen (Nat.le_trans HL1.out.1 (by have := HN.out; omega)) s)
        generalize (w10.setCell ⟨wb, 1, none⟩ (.slice a3' n3 c3)) = w11 at hL1 hB1' kx1 hb11 HH ⊢
        have tx0 : w11.cell? ⟨b1, 0, none⟩ = some (.pointer (some ⟨x.cb, 0, none⟩)) := cell_blk kx1 0
        have tx1 : w11.cell? ⟨b1, 1, none⟩ = some (.pointer (some ⟨x.yb, 0, none⟩)) := cell_blk kx1 1
        clear hL1 F10 hR10 hg10 hat10 K10 y6 f6 hs2 hq2 hR8 K8 hF8 z18 k10 eR
        go_wp2_with fail
        refine HH.out.mono ?_
        rintro e w12 ⟨rfl, L', hN', hL', hB', -⟩
        go_wp2_with fail
        go_ret
        exact ⟨rfl, L', HE.out { L with va := .slice a3' n3 c3, air := L.air.take i ++ L.air.drop (i + 1) } rfl rfl rfl rfl HL1.out.1 HL1.out.2 L' hN', hL', (hBw2.trans hB1').trans hB'⟩
      · have hBd : decide (0 ≤ B) = false := decide_eq_false hB
        have HH := hide (handles_any base wb L j x w2 h2 hj hb2 hlen (by have := HN.out; omega) s)
        go_wp2_with fail
        refine HH.out.mono ?_
        rintro e w12 ⟨rfl, L', hN', hL', hB', -⟩
        go_wp2_with fail
        go_ret
        exact ⟨rfl, L', hN', hL', hBw2.trans hB'⟩
    · have HSp := hide (spoiltL s hsok B hB1 hB2 w2.drew)
      have HH := hide (fun (w3 : World) (g3 : w2.grownBy w3 none) (t : List UInt8) => handles_any base wb L j x w3 (h2.grown g3) hj (Nat.le_trans hb2 g3.size) hlen (by have := HN.out; omega) t)
      have hnv : L.vt.ownBlock ≠ some b1 ∧ L.va.ownBlock ≠ some b1 ∧ L.vt.ownBlock ≠ some b2 ∧ L.va.ownBlock ≠ some b2 := ⟨h2.t.neBlk kk1 (by decide), h2.ar.neBlk kk1 (by decide), h2.t.neBlk kk2 (by decide), h2.ar.neBlk kk2 (by decide)⟩
      have nb1 : b1 ≠ wb := fun q => by rw [q, h2.cp] at kk1; simp at kk1
      have nb2 : b2 ≠ wb := fun q => by rw [q, h2.cp] at kk2; simp at kk2
      go_wp2_with fail
      go_region_held3 (fun w' => w'.cell? ⟨b1, 0, none⟩ = some (.pointer (some ⟨x.cb, 0, none⟩)) ∧ w'.cell? ⟨b1, 1, none⟩ = some (.pointer (some ⟨x.yb, 0, none⟩)) ∧ w'.cell? ⟨b2, 3, none⟩ = some (.int .i64 B))
        (first | go_keep | exact ⟨ck1 _ _ t0, ck1 _ _ t1, ck2 _ _ a3⟩)
        (first | (go_at_call 93; refine HSp.out.mono ?_; rintro e w3 ⟨t, rfl, g3⟩; have ck1 : ∀ (o : Nat) (v : Value), w2.cell? ⟨b1, o, none⟩ = some v → w3.cell? ⟨b1, o, none⟩ = some v := fun o v hv => cell_of_grown hv (grown_trans (grown_drew (grown_refl w2)) g3); have ck2 : ∀ (o : Nat) (v : Value), w2.cell? ⟨b2, o, none⟩ = some v → w3.cell? ⟨b2, o, none⟩ = some v := fun o v hv => cell_of_grown hv (grown_trans (grown_drew (grown_refl w2)) g3)) | (go_at_call 14; refine (HH.out _ (grown_trans (grown_drew (grown_refl w2)) g3) t).mono ?_; rintro e w12 ⟨rfl, L', hN', hL', hB', hK'⟩; have ck1 : ∀ (o : Nat) (v : Value), w2.cell? ⟨b1, o, none⟩ = some v → w12.cell? ⟨b1, o, none⟩ = some v := (fun o v hv => (World.cell?_of_block (a := ⟨b1, o, none⟩) (hK' b1 (Nat.lt_of_lt_of_le (lt_of_heap kk1) g3.size) nb1 n1 hnv.1 hnv.2.1)).trans (cell_of_grown hv (grown_trans (grown_drew (grown_refl w2)) g3))); have ck2 : ∀ (o : Nat) (v : Value), w2.cell? ⟨b2, o, none⟩ = some v → w12.cell? ⟨b2, o, none⟩ = some v := (fun o v hv => (World.cell?_of_block (a := ⟨b2, o, none⟩) (hK' b2 (Nat.lt_of_lt_of_le (lt_of_heap kk2) g3.size) nb2 n2 hnv.2.2.1 hnv.2.2.2)).trans (cell_of_grown hv (grown_trans (grown_drew (grown_refl w2)) g3)))))
      all_goals
        go_wp2_with fail
        go_ret
        exact ⟨rfl, L', hN', hL', (hBw2.grown (grown_trans (grown_drew (grown_refl w2)) g3) hb2 (by simp)).trans hB'⟩

end Go.Proofs.YtachmkhbbbmioaaGreat

namespace Go.Proofs.YtachmkhbbbmioaaGreat
open Go.RowKit Go.Shelf

/-- An operation of raw numbers that lies in memory: its cells, and the numbers of its clock. -/
def OpIn (w : World) (b o : Nat) : Prop := ∃ (y : OpR) (va : Option Addr) (vn vp : Nat) (xs : Nat → Int),
  w.cell? ⟨b, o, none⟩ = some (.int .i64 y.o) ∧ w.cell? ⟨b, o + 1, none⟩ = some (.int .i64 y.num) ∧ w.cell? ⟨b, o + 2, none⟩ = some (.int .i64 y.c) ∧ w.cell? ⟨b, o + 3, none⟩ = some (.int .i64 y.kind) ∧ w.cell? ⟨b, o + 4, none⟩ = some (.int .i64 y.tc) ∧ w.cell? ⟨b, o + 5, none⟩ = some (.int .i64 y.tk) ∧ w.cell? ⟨b, o + 6, none⟩ = some (.int .i64 y.r) ∧ w.cell? ⟨b, o + 7, none⟩ = some (.slice va vn vp) ∧ IntsIn w va vn xs ∧
  (y.o ≤ 9223372036854775807 ∧ y.num ≤ 9223372036854775807 ∧ y.c ≤ 9223372036854775807 ∧ y.kind ≤ 9223372036854775807 ∧ y.tc ≤ 9223372036854775807 ∧ y.tk ≤ 9223372036854775807 ∧ y.r ≤ 9223372036854775807)

/-- Operations of raw numbers, in a row. -/
def OpsIn (w : World) (a : Option Addr) (len : Nat) : Prop := ∀ i, i < len → ∃ b off, a = some ⟨b, off, none⟩ ∧ b < w.heap.size ∧ OpIn w b (off + i * 8)

theorem IntsIn.grown {w w' : World} {a : Option Addr} {len : Nat} {xs : Nat → Int} (h : IntsIn w a len xs) (g : w.grownBy w' none) : IntsIn w' a len xs := ⟨fun i hi => by
  obtain ⟨b, off, e, hb, hc, hr⟩ := h.cell i hi
  exact ⟨b, off, e, Nat.lt_of_lt_of_le hb g.size, cell_of_grown hc g, hr⟩⟩

theorem OpIn.grown {w w' : World} {b o : Nat} (h : OpIn w b o) (g : w.grownBy w' none) : OpIn w' b o := by
  obtain ⟨y, va, vn, vp, xs, c0, c1, c2, c3, c4, c5, c6, c7, hI, hr⟩ := h
  exact ⟨y, va, vn, vp, xs, cell_of_grown c0 g, cell_of_grown c1 g, cell_of_grown c2 g, cell_of_grown c3 g, cell_of_grown c4 g, cell_of_grown c5 g, cell_of_grown c6 g, cell_of_grown c7 g, hI.grown g, hr⟩

theorem OpsIn.grown {w w' : World} {a : Option Addr} {len : Nat} (h : OpsIn w a len) (g : w.grownBy w' none) : OpsIn w' a len := fun i hi => by
  obtain ⟨b, off, e, hb, ho⟩ := h i hi
  exact ⟨b, off, e, Nat.lt_of_lt_of_le hb g.size, ho.grown g⟩

/-- Without numbers below 0, and with a clock of its own. -/
def plainOp (y : OpR) (q : Nat → Int) : OpR := ⟨max y.o 0, max y.num 0, max y.c 0, max y.kind 0, max y.tc 0, max y.tk 0, max y.r 0, q⟩

end Go.Proofs.YtachmkhbbbmioaaGreat

namespace Go.Proofs.YtachmkhbbbmioaaGreat
open Go.RowKit Go.Shelf

theorem IntsIn.kept {w w' : World} {a : Option Addr} {len : Nat} {xs : Nat → Int} (h : IntsIn w a len xs) (hs : w.heap.size ≤ w'.heap.size) (e : ∀ k, k < w.heap.size → w'.heap[k]? = w.heap[k]?) : IntsIn w' a len xs := ⟨fun i hi => by
  obtain ⟨b, off, ea, hb, hc, hr⟩ := h.cell i hi
  exact ⟨b, off, ea, Nat.lt_of_lt_of_le hb hs, (World.cell?_of_block (a := ⟨b, off + i, none⟩) (e b hb)).trans hc, hr⟩⟩

theorem setOp8 {w : World} {b : Nat} {T : TypeId} {a0 a1 a2 a3 a4 a5 a6 a7 : Value} (h : w.heap[b]? = some (.cells #[a0, a1, a2, a3, a4, a5, a6, a7] T)) {v0 v1 v2 v3 v4 v5 v6 v7 : Value} : (((((((((w.setCell ⟨b, 0, none⟩ v0).setCell ⟨b, 1, none⟩ v1).setCell ⟨b, 2, none⟩ v2).setCell ⟨b, 3, none⟩ v3).setCell ⟨b, 4, none⟩ v4).setCell ⟨b, 5, none⟩ v5).setCell ⟨b, 6, none⟩ v6).setCell ⟨b, 7, none⟩ v7)).heap[b]? = some (.cells #[v0, v1, v2, v3, v4, v5, v6, v7] T) := by
  have h0 : (w.setCell ⟨b, 0, none⟩ v0).heap[b]? = some (.cells #[v0, a1, a2, a3, a4, a5, a6, a7] T) := (set_blk h).trans rfl
  have h1 : ((w.setCell ⟨b, 0, none⟩ v0).setCell ⟨b, 1, none⟩ v1).heap[b]? = some (.cells #[v0, v1, a2, a3, a4, a5, a6, a7] T) := (set_blk h0).trans rfl
  have h2 : (((w.setCell ⟨b, 0, none⟩ v0).setCell ⟨b, 1, none⟩ v1).setCell ⟨b, 2, none⟩ v2).heap[b]? = some (.cells #[v0, v1, v2, a3, a4, a5, a6, a7] T) := (set_blk h1).trans rfl
  have h3 : ((((w.setCell ⟨b, 0, none⟩ v0).setCell ⟨b, 1, none⟩ v1).setCell ⟨b, 2, none⟩ v2).setCell ⟨b, 3, none⟩ v3).heap[b]? = some (.cells #[v0, v1, v2, v3, a4, a5, a6, a7] T) := (set_blk h2).trans rfl
  have h4 : (((((w.setCell ⟨b, 0, none⟩ v0).setCell ⟨b, 1, none⟩ v1).setCell ⟨b, 2, none⟩ v2).setCell ⟨b, 3, none⟩ v3).setCell ⟨b, 4, none⟩ v4).heap[b]? = some (.cells #[v0, v1, v2, v3, v4, a5, a6, a7] T) := (set_blk h3).trans rfl
  have h5 : ((((((w.setCell ⟨b, 0, none⟩ v0).setCell ⟨b, 1, none⟩ v1).setCell ⟨b, 2, none⟩ v2).setCell ⟨b, 3, none⟩ v3).setCell ⟨b, 4, none⟩ v4).setCell ⟨b, 5, none⟩ v5).heap[b]? = some (.cells #[v0, v1, v2, v3, v4, v5, a6, a7] T) := (set_blk h4).trans rfl
  have h6 : (((((((w.setCell ⟨b, 0, none⟩ v0).setCell ⟨b, 1, none⟩ v1).setCell ⟨b, 2, none⟩ v2).setCell ⟨b, 3, none⟩ v3).setCell ⟨b, 4, none⟩ v4).setCell ⟨b, 5, none⟩ v5).setCell ⟨b, 6, none⟩ v6).heap[b]? = some (.cells #[v0, v1, v2, v3, v4, v5, v6, a7] T) := (set_blk h5).trans rfl
  have h7 : ((((((((w.setCell ⟨b, 0, none⟩ v0).setCell ⟨b, 1, none⟩ v1).setCell ⟨b, 2, none⟩ v2).setCell ⟨b, 3, none⟩ v3).setCell ⟨b, 4, none⟩ v4).setCell ⟨b, 5, none⟩ v5).setCell ⟨b, 6, none⟩ v6).setCell ⟨b, 7, none⟩ v7).heap[b]? = some (.cells #[v0, v1, v2, v3, v4, v5, v6, v7] T) := (set_blk h6).trans rfl
  exact h7

set_option maxRecDepth 100000 in
set_option maxHeartbeats 8000000 in
theorem textL (n : Nat) (h8 : n ≤ 8) (F Bd : Int) (ac : Option Addr) (nc cc : Nat) (xs : Nat → Int) (ao : Option Addr) (lo co : Nat) (hlo : lo ≤ 200000) (hF : F ≤ 9223372036854775807) (hB1 : -9223372036854775808 ≤ Bd) (hB2 : Bd ≤ 9223372036854775807) (w : World) (hc : IntsIn w ac nc xs) (ho : OpsIn w ao lo) :
    Calls Tryz.prog 15 #[.agg #[.int .i64 F, .slice ac nc cc, .slice ao lo co, .int .i64 Bd], .int .i64 n] w fun e w' => ∃ t : List UInt8, e = .returned (str t) ∧ w.grownBy w' none := by
  go_enter Tryz.func15, Tryz.ntmps15
  go_upto_region 1 with fail
  have g1 : w.grownBy (w.alloc (.cells #[.int .i64 F, .slice ac nc cc, .slice ao lo co, .int .i64 Bd] 43)) none := grown_alloc (grown_refl _) _
  have kr : (w.alloc (.cells #[.int .i64 F, .slice ac nc cc, .slice ao lo co, .int .i64 Bd] 43)).heap[w.heap.size]? = some (.cells #[.int .i64 F, .slice ac nc cc, .slice ao lo co, .int .i64 Bd] 43) := by rw [heap_alloc_at]; simp
  generalize (w.alloc (.cells #[.int .i64 F, .slice ac nc cc, .slice ao lo co, .int .i64 Bd] 43)) = w1 at g1 kr ⊢
  generalize w.heap.size = b2 at kr ⊢
  have HO := hide (ho.grown g1)
  have r0 : w1.cell? ⟨b2, 0, none⟩ = some (.int .i64 F) := cell_blk kr 0
  have r1 : w1.cell? ⟨b2, 1, none⟩ = some (.slice ac nc cc) := cell_blk kr 1
  have hb2 : b2 ≠ w1.heap.size := Nat.ne_of_lt (lt_of_heap kr)
  have hb2' : w1.heap.size ≠ b2 := Ne.symm hb2
  have gz : w1.grownBy (w1.alloc (.cells #[.int .i64 0, .slice none 0 0, .slice none 0 0] 84)).drew none := grown_drew (grown_alloc (grown_refl _) _)
  have kz : (w1.alloc (.cells #[.int .i64 0, .slice none 0 0, .slice none 0 0] 84)).drew.heap[w1.heap.size]? = some (.cells #[.int .i64 0, .slice none 0 0, .slice none 0 0] 84) := by rw [heap_drew, heap_alloc_at]; simp
  have HL := hide (longN n h8 ac nc cc xs w1.drew (hc.grown (grown_trans g1 (grown_drew (grown_refl w1)))))
  have HM := hide (longN n h8 ac nc cc xs _ (hc.grown (grown_trans g1 gz)))
  have HC := hide (fun k (hk : k < nc) => (hc.cell k hk).choose_spec.choose_spec.2.2.2)
  clear hc ho
  go_cut [5] (fun s5 wx => ∃ b5 g5, s5 = .pointer (some ⟨b5, 0, none⟩) ∧ wx.heap[b5]? = some (.cells #[.int .i64 F, .slice (some ⟨g5, 0, none⟩) n n, .slice none 0 0] 84) ∧ RowAt 3 1 (.slice (some ⟨g5, 0, none⟩) n n) (intRow (clk n (partCk (pos xs) nc))) wx ∧ w1.grownBy wx none ∧ w1.heap.size ≤ b5)
  case first =>
    go_region_held3 (fun w' => w'.cell? ⟨b2, 0, none⟩ = some (.int .i64 F) ∧ w'.cell? ⟨b2, 1, none⟩ = some (.slice ac nc cc))
      (first | go_keep | exact ⟨ck _ _ r0, ck _ _ r1⟩)
      (first | (go_at_call 40; refine HL.out.mono ?_; rintro e w3 ⟨g5, rfl, hR5, hg5, g3⟩; have ck : ∀ (a : Addr) (x : Value), w1.cell? a = some x → w3.cell? a = some x := fun a x hx => cell_of_grown hx (grown_trans (grown_drew (grown_refl w1)) g3); have hcase : w1.grownBy w3 none := grown_trans (grown_drew (grown_refl w1)) g3) | (go_at_call 40; refine HM.out.mono ?_; rintro e w3 ⟨g5, rfl, hR5, hg5, g3⟩; have ck : ∀ (a : Addr) (x : Value), w1.cell? a = some x → w3.cell? a = some x := (fun a x hx => cell_of_grown hx (grown_trans gz g3)); have k3 := (g3.block _ (lt_of_heap kz) (by simp)).trans kz; have z0 : w3.cell? ⟨w1.heap.size, 0, none⟩ = some (.int .i64 0) := cell_blk k3 0; have z1 : w3.cell? ⟨w1.heap.size, 1, none⟩ = some (.slice none 0 0) := cell_blk k3 1; have z2 : w3.cell? ⟨w1.heap.size, 2, none⟩ = some (.slice none 0 0) := cell_blk k3 2; have f0 : w3.frozen? ⟨w1.heap.size, 0, none⟩ = false := frozen_blk k3 0; have f1 : w3.frozen? ⟨w1.heap.size, 1, none⟩ = false := frozen_blk k3 1; have f2 : w3.frozen? ⟨w1.heap.size, 2, none⟩ = false := frozen_blk k3 2; have hcase : w1.grownBy w3 none := grown_trans gz g3; have r03 := ck _ _ r0; have r13 := ck _ _ r1))
    all_goals (go_wp2_with fail; go_meet)
    · exact ⟨w3.heap.size, g5, rfl, by rw [heap_alloc_at]; simp, hR5.grown (grown_alloc (grown_refl _) _), grown_trans hcase (grown_alloc (grown_refl _) _), hcase.size⟩
    · have hne : (Value.slice (some ⟨g5, 0, none⟩) n n).ownBlock ≠ some w1.heap.size := hR5.neBlk k3 (by decide)
      refine ⟨w1.heap.size, g5, rfl, ?_, ?_, ?_, Nat.le_refl _⟩
      · exact (set_blk (set_blk (set_blk k3))).trans rfl
      · refine hR5.kept (fun g hg => ?_)
        have hg' : g ≠ w1.heap.size := fun q => hne (q ▸ hg)
        rw [Below.heap_setCell _ _ _ _ hg', Below.heap_setCell _ _ _ _ hg', Below.heap_setCell _ _ _ _ hg']
      · exact (((((Fr.refl [] w1).grown hcase (by simp)).setCell (.inr (Nat.le_refl _)) _).setCell (.inr (Nat.le_refl _)) _).setCell (.inr (Nat.le_refl _)) _).toGrown
  case rest =>
  obtain ⟨b5, g5, rfl, k5, hR5, gC, hb5⟩ := hcut
  have hb25 : b2 ≠ b5 := by have := lt_of_heap kr; omega
  have krc := (gC.block _ (lt_of_heap kr) (by simp)).trans kr
  have hwc : w1.heap.size ≤ wc.heap.size := gC.size
  clear HL HM gz kz r0 r1
  go_wp2_with fail
  go_loopg [6] lo (fun gk s6 wr => ∃ (i : Nat) (l : List OpR) (vo : Value), s6 = .int .i64 i ∧ i ≤ lo ∧ gk = lo - i ∧ wr.heap[b5]? = some (.cells #[.int .i64 F, .slice (some ⟨g5, 0, none⟩) n n, vo] 84) ∧ Hid (l.length = i ∧ ∀ x ∈ l, OpNn x) ∧ Hid (OpsRow n vo l wr) ∧ Hid (∀ g, vo.ownBlock = some g → wc.heap.size ≤ g) ∧ RowAt 3 1 (.slice (some ⟨g5, 0, none⟩) n n) (intRow (clk n (partCk (pos xs) nc))) wr ∧ Fr [b5] wc wr)
  case atStart => exact ⟨0, [], .slice none 0 0, rfl, by omega, rfl, k5, hide ⟨rfl, by simp⟩, hide ⟨[], row_nil _ _ _, rfl, by simp⟩, hide (by simp [Value.ownBlock]), hR5, Fr.refl _ _⟩
  case round =>
    clear hR5 k5
    obtain ⟨i, l, vo, rfl, hil, hgk, k5, HLn, HOp, HVo, hR5, hFr⟩ := hrel
    have kr' := hFr.blk krc (by simpa using hb25)
    have s2 : wr.cell? ⟨b2, 2, none⟩ = some (.slice ao lo co) := cell_blk kr' 2
    have K1 : ∀ k, k < w1.heap.size → wr.heap[k]? = w1.heap[k]? := fun k hk => (hFr.block k (by omega) (by simp; omega)).trans (gC.block k hk (by simp))
    by_cases hlt : i < lo
    · have hli : (i : Int) < (lo : Int) := by omega
      obtain ⟨b, off, rfl, hbw, y, va, vn, vp, ys, c0, c1, c2, c3, c4, c5, c6, c7, hI, hrg⟩ := HO.out i hlt
      have kc : ∀ (o : Nat) (v : Value), w1.cell? ⟨b, o, none⟩ = some v → wr.cell? ⟨b, o, none⟩ = some v := fun o v hv => (World.cell?_of_block (a := ⟨b, o, none⟩) (K1 b hbw)).trans hv
      have d0 := kc _ _ c0
      have d1 := kc _ _ c1
      have d2 := kc _ _ c2
      have d3 := kc _ _ c3
      have d4 := kc _ _ c4
      have d5 := kc _ _ c5
      have d6 := kc _ _ c6
      have d7 := kc _ _ c7
      clear kc c0 c1 c2 c3 c4 c5 c6 c7
      go_upto_region 6 with fail
      have g3 : wr.grownBy (wr.alloc (.cells #[.int .i64 y.o, .int .i64 y.num, .int .i64 y.c, .int .i64 y.kind, .int .i64 y.tc, .int .i64 y.tk, .int .i64 y.r, .slice va vn vp] 88)) none := grown_alloc (grown_refl _) _
      have k7 : (wr.alloc (.cells #[.int .i64 y.o, .int .i64 y.num, .int .i64 y.c, .int .i64 y.kind, .int .i64 y.tc, .int .i64 y.tk, .int .i64 y.r, .slice va vn vp] 88)).heap[wr.heap.size]? = some (.cells #[.int .i64 y.o, .int .i64 y.num, .int .i64 y.c, .int .i64 y.kind, .int .i64 y.tc, .int .i64 y.tk, .int .i64 y.r, .slice va vn vp] 88) := by rw [heap_alloc_at]; simp
      generalize (wr.alloc (.cells #[.int .i64 y.o, .int .i64 y.num, .int .i64 y.c, .int .i64 y.kind, .int .i64 y.tc, .int .i64 y.tk, .int .i64 y.r, .slice va vn vp] 88)) = w3 at g3 k7 ⊢
      obtain ⟨b7, hb7⟩ : ∃ b7, wr.heap.size = b7 := ⟨_, rfl⟩
      rw [hb7] at k7 ⊢
      have hI3 : IntsIn w3 va vn ys := hI.kept (Nat.le_trans hwc (Nat.le_trans hFr.size g3.size)) (fun k hk => (g3.block k (by have := hFr.size; omega) (by simp)).trans (K1 k hk))
      have e7 : w3.cell? ⟨b7, 7, none⟩ = some (.slice va vn vp) := cell_blk k7 7
      have HL := hide (longN n h8 va vn vp ys w3 hI3)
      clear d0 d1 d2 d3 d4 d5 d6 d7 s2
      go_upto_region 7 with (go_at_call 40; refine HL.out.mono ?_; rintro e w4 ⟨g7, rfl, hR7, hg7, g4⟩; have k74 := (g4.block _ (lt_of_heap k7) (by simp)).trans k7; have z7 : w4.cell? ⟨b7, 7, none⟩ = some (.slice va vn vp) := cell_blk k74 7; have f7 : w4.frozen? ⟨b7, 7, none⟩ = false := frozen_blk k74 7)
      have k75 : (w4.setCell ⟨b7, 7, none⟩ (.slice (some ⟨g7, 0, none⟩) n n)).heap[b7]? = some (.cells #[.int .i64 y.o, .int .i64 y.num, .int .i64 y.c, .int .i64 y.kind, .int .i64 y.tc, .int .i64 y.tk, .int .i64 y.r, .slice (some ⟨g7, 0, none⟩) n n] 88) := (set_blk k74).trans rfl
      have hF5 : Fr [b7] wr (w4.setCell ⟨b7, 7, none⟩ (.slice (some ⟨g7, 0, none⟩) n n)) := (((Fr.refl _ wr).grown g3 (by simp)).grown g4 (by simp)).setCell (.inl (by simp)) _
      have hR75 := hR7.kept (w' := w4.setCell ⟨b7, 7, none⟩ (.slice (some ⟨g7, 0, none⟩) n n)) (fun g hg => Below.heap_setCell _ _ _ _ (fun q => hR7.neBlk k74 (by decide) (by have q' : g = b7 := q; rw [← q']; exact hg)))
      generalize (w4.setCell ⟨b7, 7, none⟩ (.slice (some ⟨g7, 0, none⟩) n n)) = w5 at k75 hF5 hR75 ⊢
      clear z7 f7 k74 e7 HL hR7 g4 g3 k7 hI3
      have q0 : w5.cell? ⟨b7, 0, none⟩ = some (.int .i64 y.o) := cell_blk k75 0
      have q1 : w5.cell? ⟨b7, 1, none⟩ = some (.int .i64 y.num) := cell_blk k75 1
      have q2 : w5.cell? ⟨b7, 2, none⟩ = some (.int .i64 y.c) := cell_blk k75 2
      have q3 : w5.cell? ⟨b7, 3, none⟩ = some (.int .i64 y.kind) := cell_blk k75 3
      have q4 : w5.cell? ⟨b7, 4, none⟩ = some (.int .i64 y.tc) := cell_blk k75 4
      have q5 : w5.cell? ⟨b7, 5, none⟩ = some (.int .i64 y.tk) := cell_blk k75 5
      have q6 : w5.cell? ⟨b7, 6, none⟩ = some (.int .i64 y.r) := cell_blk k75 6
      have q7 : w5.cell? ⟨b7, 7, none⟩ = some (.slice (some ⟨g7, 0, none⟩) n n) := cell_blk k75 7
      have HPl := hide (plainL y.o y.num y.c y.kind y.tc y.tk y.r (some ⟨g7, 0, none⟩) n n w5)
      go_wp2_with fail
      refine HPl.out.mono ?_
      rintro e w6 ⟨rfl, g6⟩
      have k76 := (g6.block _ (lt_of_heap k75) (by simp)).trans k75
      have p0 : w6.cell? ⟨b7, 0, none⟩ = some (.int .i64 y.o) := cell_blk k76 0
      have p1 : w6.cell? ⟨b7, 1, none⟩ = some (.int .i64 y.num) := cell_blk k76 1
      have p2 : w6.cell? ⟨b7, 2, none⟩ = some (.int .i64 y.c) := cell_blk k76 2
      have p3 : w6.cell? ⟨b7, 3, none⟩ = some (.int .i64 y.kind) := cell_blk k76 3
      have p4 : w6.cell? ⟨b7, 4, none⟩ = some (.int .i64 y.tc) := cell_blk k76 4
      have p5 : w6.cell? ⟨b7, 5, none⟩ = some (.int .i64 y.tk) := cell_blk k76 5
      have p6 : w6.cell? ⟨b7, 6, none⟩ = some (.int .i64 y.r) := cell_blk k76 6
      have p7 : w6.cell? ⟨b7, 7, none⟩ = some (.slice (some ⟨g7, 0, none⟩) n n) := cell_blk k76 7
      have z0 : w6.frozen? ⟨b7, 0, none⟩ = false := frozen_blk k76 0
      have z1 : w6.frozen? ⟨b7, 1, none⟩ = false := frozen_blk k76 1
      have z2 : w6.frozen? ⟨b7, 2, none⟩ = false := frozen_blk k76 2
      have z3 : w6.frozen? ⟨b7, 3, none⟩ = false := frozen_blk k76 3
      have z4 : w6.frozen? ⟨b7, 4, none⟩ = false := frozen_blk k76 4
      have z5 : w6.frozen? ⟨b7, 5, none⟩ = false := frozen_blk k76 5
      have z6 : w6.frozen? ⟨b7, 6, none⟩ = false := frozen_blk k76 6
      have z7 : w6.frozen? ⟨b7, 7, none⟩ = false := frozen_blk k76 7
      go_upto_region 8 with fail
      have hF7 : Fr [b7] wr ((((((((w6.setCell ⟨b7, 0, none⟩ (.int .i64 (max y.o 0))).setCell ⟨b7, 1, none⟩ (.int .i64 (max y.num 0))).setCell ⟨b7, 2, none⟩ (.int .i64 (max y.c 0))).setCell ⟨b7, 3, none⟩ (.int .i64 (max y.kind 0))).setCell ⟨b7, 4, none⟩ (.int .i64 (max y.tc 0))).setCell ⟨b7, 5, none⟩ (.int .i64 (max y.tk 0))).setCell ⟨b7, 6, none⟩ (.int .i64 (max y.r 0))).setCell ⟨b7, 7, none⟩ (.slice (some ⟨g7, 0, none⟩) n n)) := (((((((((hF5.grown g6 (by simp)).setCell (.inl (by simp)) _).setCell (.inl (by simp)) _).setCell (.inl (by simp)) _).setCell (.inl (by simp)) _).setCell (.inl (by simp)) _).setCell (.inl (by simp)) _).setCell (.inl (by simp)) _).setCell (.inl (by simp)) _)
      have k77 : ((((((((w6.setCell ⟨b7, 0, none⟩ (.int .i64 (max y.o 0))).setCell ⟨b7, 1, none⟩ (.int .i64 (max y.num 0))).setCell ⟨b7, 2, none⟩ (.int .i64 (max y.c 0))).setCell ⟨b7, 3, none⟩ (.int .i64 (max y.kind 0))).setCell ⟨b7, 4, none⟩ (.int .i64 (max y.tc 0))).setCell ⟨b7, 5, none⟩ (.int .i64 (max y.tk 0))).setCell ⟨b7, 6, none⟩ (.int .i64 (max y.r 0))).setCell ⟨b7, 7, none⟩ (.slice (some ⟨g7, 0, none⟩) n n)).heap[b7]? = some (.cells #[.int .i64 (max y.o 0), .int .i64 (max y.num 0), .int .i64 (max y.c 0), .int .i64 (max y.kind 0), .int .i64 (max y.tc 0), .int .i64 (max y.tk 0), .int .i64 (max y.r 0), .slice (some ⟨g7, 0, none⟩) n n] 88) := by rw [setOp8 k76]
      have hR77 := (hR75.grown g6).kept (w' := ((((((((w6.setCell ⟨b7, 0, none⟩ (.int .i64 (max y.o 0))).setCell ⟨b7, 1, none⟩ (.int .i64 (max y.num 0))).setCell ⟨b7, 2, none⟩ (.int .i64 (max y.c 0))).setCell ⟨b7, 3, none⟩ (.int .i64 (max y.kind 0))).setCell ⟨b7, 4, none⟩ (.int .i64 (max y.tc 0))).setCell ⟨b7, 5, none⟩ (.int .i64 (max y.tk 0))).setCell ⟨b7, 6, none⟩ (.int .i64 (max y.r 0))).setCell ⟨b7, 7, none⟩ (.slice (some ⟨g7, 0, none⟩) n n))) (fun g hg => by
        have hn : g ≠ b7 := fun q => hR75.neBlk k75 (by decide) (by rw [← q]; exact hg)
        rw [Below.heap_setCell _ _ _ _ hn, Below.heap_setCell _ _ _ _ hn, Below.heap_setCell _ _ _ _ hn, Below.heap_setCell _ _ _ _ hn, Below.heap_setCell _ _ _ _ hn, Below.heap_setCell _ _ _ _ hn, Below.heap_setCell _ _ _ _ hn, Below.heap_setCell _ _ _ _ hn])
      generalize ((((((((w6.setCell ⟨b7, 0, none⟩ (.int .i64 (max y.o 0))).setCell ⟨b7, 1, none⟩ (.int .i64 (max y.num 0))).setCell ⟨b7, 2, none⟩ (.int .i64 (max y.c 0))).setCell ⟨b7, 3, none⟩ (.int .i64 (max y.kind 0))).setCell ⟨b7, 4, none⟩ (.int .i64 (max y.tc 0))).setCell ⟨b7, 5, none⟩ (.int .i64 (max y.tk 0))).setCell ⟨b7, 6, none⟩ (.int .i64 (max y.r 0))).setCell ⟨b7, 7, none⟩ (.slice (some ⟨g7, 0, none⟩) n n)) = w7 at hF7 k77 hR77 ⊢
      obtain ⟨rows, hRo, hRl, hRx⟩ := HOp.out
      have hbb : ∀ g, g < wr.heap.size → g ∉ [b7] := fun g hg => by simp; omega
      have hRo7 : RowAt 88 8 vo rows w7 := hRo.kept (fun g hg => hF7.block g (hRo.lt hg) (hbb g (hRo.lt hg)))
      have hRx7 : ∀ (j : Nat) (x : OpR), l[j]? = some x → ∃ vk, rows[j]? = some (opCells x vk) ∧ RowAt 3 1 vk (intRow (clk n x.q)) w7 := fun j x hj => by
        obtain ⟨vk, u1, u2⟩ := hRx j x hj
        exact ⟨vk, u1, u2.kept (fun g hg => hF7.block g (u2.lt hg) (hbb g (u2.lt hg)))⟩
      have k57 : w7.heap[b5]? = some (.cells #[.int .i64 F, .slice (some ⟨g5, 0, none⟩) n n, vo] 84) := hF7.blk k5 (hbb b5 (lt_of_heap k5))
      have hR57 := hR5.kept (w' := w7) (fun g hg => hF7.block g (hR5.lt hg) (hbb g (hR5.lt hg)))
      have hFw7 : Fr [b5] wc w7 := ⟨hF7.os.trans hFr.os, hF7.tape.trans hFr.tape, hF7.output.trans hFr.output, Nat.le_trans hFr.size hF7.size, fun k hk hn => (hF7.block k (Nat.lt_of_lt_of_le hk hFr.size) (hbb k (Nat.lt_of_lt_of_le hk hFr.size))).trans (hFr.block k hk hn)⟩
      obtain ⟨av, cv, hvo, -⟩ := hRo.value
      have hri : rows.length = i := by rw [hRl, HLn.out.1]
      rw [hri] at hvo
      subst hvo
      have y2 : w7.cell? ⟨b5, 2, none⟩ = some (.slice av i cv) := cell_blk k57 2
      have t0 : w7.cell? ⟨b7, 0, none⟩ = some (.int .i64 (max y.o 0)) := cell_blk k77 0
      have t1 : w7.cell? ⟨b7, 1, none⟩ = some (.int .i64 (max y.num 0)) := cell_blk k77 1
      have t2 : w7.cell? ⟨b7, 2, none⟩ = some (.int .i64 (max y.c 0)) := cell_blk k77 2
      have t3 : w7.cell? ⟨b7, 3, none⟩ = some (.int .i64 (max y.kind 0)) := cell_blk k77 3
      have t4 : w7.cell? ⟨b7, 4, none⟩ = some (.int .i64 (max y.tc 0)) := cell_blk k77 4
      have t5 : w7.cell? ⟨b7, 5, none⟩ = some (.int .i64 (max y.tk 0)) := cell_blk k77 5
      have t6 : w7.cell? ⟨b7, 6, none⟩ = some (.int .i64 (max y.r 0)) := cell_blk k77 6
      have t7 : w7.cell? ⟨b7, 7, none⟩ = some (.slice (some ⟨g7, 0, none⟩) n n) := cell_blk k77 7
      have hSr : SrcAt (w7.alloc (.cells #[.int .i64 (max y.o 0), .int .i64 (max y.num 0), .int .i64 (max y.c 0), .int .i64 (max y.kind 0), .int .i64 (max y.tc 0), .int .i64 (max y.tk 0), .int .i64 (max y.r 0), .slice (some ⟨g7, 0, none⟩) n n] 88)) (.slice (some ⟨w7.heap.size, 0, none⟩) 1 1) [opCells (plainOp y (partCk (pos ys) vn)) (.slice (some ⟨g7, 0, none⟩) n n)] := src_new w7 (opCells (plainOp y (partCk (pos ys) vn)) (.slice (some ⟨g7, 0, none⟩) n n)) 88
      have ga : w7.grownBy (w7.alloc (.cells #[.int .i64 (max y.o 0), .int .i64 (max y.num 0), .int .i64 (max y.c 0), .int .i64 (max y.kind 0), .int .i64 (max y.tc 0), .int .i64 (max y.tk 0), .int .i64 (max y.r 0), .slice (some ⟨g7, 0, none⟩) n n] 88)) none := grown_alloc (grown_refl _) _
      have hRa := hRo7.grown ga
      have nb5 : (Value.slice av i cv).ownBlock ≠ some b5 := hRo7.neBlk k57 (by decide)
      have F8 : Hid (∀ w8 : World, (w7.alloc (.cells #[.int .i64 (max y.o 0), .int .i64 (max y.num 0), .int .i64 (max y.c 0), .int .i64 (max y.kind 0), .int .i64 (max y.tc 0), .int .i64 (max y.tk 0), .int .i64 (max y.r 0), .slice (some ⟨g7, 0, none⟩) n n] 88)).grownBy w8 (Value.slice av i cv).ownBlock → w8.heap[b5]? = some (.cells #[.int .i64 F, .slice (some ⟨g5, 0, none⟩) n n, .slice av i cv] 84)) := hide (fun w8 hg8 => (hg8.block b5 (Nat.lt_of_lt_of_le (lt_of_heap k57) ga.size) (Ne.symm nb5)).trans ((ga.block b5 (lt_of_heap k57) (by simp)).trans k57))
      have hOn : Hid (OpNn (plainOp y (partCk (pos ys) vn))) := hide (by
        refine ⟨?_, ?_, ?_, ?_, ?_, ?_, ?_, fun k hk => ?_⟩
        · show 0 ≤ max y.o 0 ∧ max y.o 0 < _; omega
        · show 0 ≤ max y.num 0 ∧ max y.num 0 < _; omega
        · show 0 ≤ max y.c 0 ∧ max y.c 0 < _; omega
        · show 0 ≤ max y.kind 0 ∧ max y.kind 0 < _; omega
        · show 0 ≤ max y.tc 0 ∧ max y.tc 0 < _; omega
        · show 0 ≤ max y.tk 0 ∧ max y.tk 0 < _; omega
        · show 0 ≤ max y.r 0 ∧ max y.r 0 < _; omega
        · show 0 ≤ partCk (pos ys) vn k ∧ partCk (pos ys) vn k < _
          unfold partCk pos
          split
          · rename_i hkv
            obtain ⟨-, -, -, -, -, hr⟩ := hI.cell k hkv
            omega
          · omega)
      clear hbb q0 q1 q2 q3 q4 q5 q6 q7 p0 p1 p2 p3 p4 p5 p6 p7 z0 z1 z2 z3 z4 z5 z6 z7
      go_upto_region 4 with (at_builtin; refine wpList_row Tryz.underlying41 infoOp rfl (by decide) rfl _ _ rfl (.slice av i cv) _ rfl hRa _ _ rfl hSr (opCells_len _ _) (op_one _ _ _ _) (by unfold maxLen; simp; omega) (by simp; omega) ?_; intro v8 w8 hR8 hg8 hat8; have k58 := F8.out w8 hg8; have y58 : w8.cell? ⟨b5, 2, none⟩ = some (.slice av i cv) := cell_blk k58 2; have f58 : w8.frozen? ⟨b5, 2, none⟩ = false := frozen_blk k58 2; obtain ⟨a8, c8, hv8, -⟩ := hR8.value; generalize hn8 : (rows ++ [opCells (plainOp y (partCk (pos ys) vn)) (.slice (some ⟨g7, 0, none⟩) n n)]).length = n8 at hv8; clear hn8; subst hv8)
      have k5f : (w8.setCell ⟨b5, 2, none⟩ (.slice a8 n8 c8)).heap[b5]? = some (.cells #[.int .i64 F, .slice (some ⟨g5, 0, none⟩) n n, .slice a8 n8 c8] 84) := (set_blk k58).trans rfl
      have hn58 : (Value.slice a8 n8 c8).ownBlock ≠ some b5 := hR8.neBlk k58 (by decide)
      have K8 : ∀ g, g < w7.heap.size → (Value.slice av i cv).ownBlock ≠ some g → w8.heap[g]? = w7.heap[g]? := fun g hg hn => (hg8.block g (Nat.lt_of_lt_of_le hg ga.size) (Ne.symm hn)).trans (ga.block g hg (by simp))
      have kI : ∀ {vk : Value} {r : List (List Value)}, RowAt 3 1 vk r w7 → RowAt 3 1 vk r (w8.setCell ⟨b5, 2, none⟩ (.slice a8 n8 c8)) := fun {vk r} u => u.kept (fun g hg => (Below.heap_setCell _ _ _ _ (fun q => u.neBlk k57 (by decide) (by have q' : g = b5 := q; rw [← q']; exact hg))).trans (K8 g (u.lt hg) (u.ne hRo7 (by decide) hg)))
      have hOpf : OpsRow n (.slice a8 n8 c8) (l ++ [plainOp y (partCk (pos ys) vn)]) (w8.setCell ⟨b5, 2, none⟩ (.slice a8 n8 c8)) := by
        refine ⟨_, hR8.kept (fun g hg => Below.heap_setCell _ _ _ _ (fun q => hn58 (by have q' : g = b5 := q; rw [← q']; exact hg))), by simp [hRl], fun j x hj => ?_⟩
        rw [List.getElem?_append] at hj ⊢
        rw [hRl]
        split at hj
        · rename_i hjl
          obtain ⟨vk, u1, u2⟩ := hRx7 j x hj
          exact ⟨vk, by rw [if_pos hjl]; exact u1, kI u2⟩
        · rename_i hjl
          have e0 : j - l.length = 0 ∧ x = plainOp y (partCk (pos ys) vn) := by
            rcases Nat.eq_zero_or_pos (j - l.length) with e | e
            · rw [e] at hj; exact ⟨e, by simpa using hj.symm⟩
            · rw [List.getElem?_eq_none (by show 1 ≤ _; omega)] at hj; cases hj
          obtain ⟨e1, rfl⟩ := e0
          exact ⟨_, by rw [if_neg hjl, e1]; rfl, kI hR77⟩
      have hOwn : ∀ g, (Value.slice a8 n8 c8).ownBlock = some g → wc.heap.size ≤ g := fun g hg => by
        rcases hat8 with q | q
        · exact HVo.out g (q ▸ hg)
        · rw [q] at hg
          have := hFw7.size
          have hg' : (w7.alloc (.cells #[.int .i64 (max y.o 0), .int .i64 (max y.num 0), .int .i64 (max y.c 0), .int .i64 (max y.kind 0), .int .i64 (max y.tc 0), .int .i64 (max y.tk 0), .int .i64 (max y.r 0), .slice (some ⟨g7, 0, none⟩) n n] 88)).heap.size = g := by simpa using hg
          simp only [World.size_alloc] at hg'
          omega
      have hFf : Fr [b5] wc (w8.setCell ⟨b5, 2, none⟩ (.slice a8 n8 c8)) := ((hFw7.grown ga (by simp)).grown hg8 (fun k hk => .inr (HVo.out k hk))).setCell (.inl (by simp)) _
      have hR5f := kI hR57
      have hln : Hid ((l ++ [plainOp y (partCk (pos ys) vn)]).length = i + 1 ∧ ∀ x ∈ l ++ [plainOp y (partCk (pos ys) vn)], OpNn x) := hide ⟨by simp [HLn.out.1], fun x hx => by
        rcases List.mem_append.1 hx with hx | hx
        · exact HLn.out.2 x hx
        · rw [List.mem_singleton.1 hx]; exact hOn.out⟩
      go_wp2_with fail
      go_roundg (lo - (i + 1))
      case measure => omega
      case rel => exact ⟨i + 1, l ++ [plainOp y (partCk (pos ys) vn)], .slice a8 n8 c8, by go_num, by omega, rfl, k5f, hln, hide hOpf, hide hOwn, hR5f, hFf⟩
    · have hie : i = lo := by omega
      have hli : ¬ (i : Int) < (lo : Int) := by omega
      have y0 : wr.cell? ⟨b5, 0, none⟩ = some (.int .i64 F) := cell_blk k5 0
      have f0 : wr.frozen? ⟨b5, 0, none⟩ = false := frozen_blk k5 0
      have s3 : wr.cell? ⟨b2, 3, none⟩ = some (.int .i64 Bd) := cell_blk kr' 3
      have hmx : ∀ w, (Builtin.max_ #[3, 3] 3 #[.int .i64 F, .int .i64 0]).run Tryz.prog w = .ok (.int .i64 (max F 0)) w := fun w => by
        rw [run_max_int2]
        have : (if (0 : Int) > F then (0 : Int) else F) = max F 0 := by split <;> omega
        rw [this]
      obtain ⟨rows, hRo, hRl, hRx⟩ := HOp.out
      have nvo : vo.ownBlock ≠ some b5 := hRo.neBlk k5 (by decide)
      obtain ⟨av, cv, hvo, -⟩ := hRo.value
      subst hvo
      have k5f : (wr.setCell ⟨b5, 0, none⟩ (.int .i64 (max F 0))).heap[b5]? = some (.cells #[.int .i64 (max F 0), .slice (some ⟨g5, 0, none⟩) n n, .slice av rows.length cv] 84) := (set_blk k5).trans rfl
      have kI : ∀ {vk : Value} {r : List (List Value)}, RowAt 3 1 vk r wr → RowAt 3 1 vk r (wr.setCell ⟨b5, 0, none⟩ (.int .i64 (max F 0))) := fun {vk r} u => u.kept (fun g hg => Below.heap_setCell _ _ _ _ (fun q => u.neBlk k5 (by decide) (by have q' : g = b5 := q; rw [← q']; exact hg)))
      have hOpf : OpsRow n (.slice av rows.length cv) l (wr.setCell ⟨b5, 0, none⟩ (.int .i64 (max F 0))) := ⟨rows, hRo.kept (fun g hg => Below.heap_setCell _ _ _ _ (fun q => nvo (by have q' : g = b5 := q; rw [← q']; exact hg))), hRl, fun j x hj => by
        obtain ⟨vk, u1, u2⟩ := hRx j x hj
        exact ⟨vk, u1, kI u2⟩⟩
      have hR5f := kI hR5
      have hFf : Fr [] w1 (wr.setCell ⟨b5, 0, none⟩ (.int .i64 (max F 0))) := by
        have h1 : Fr [b5] w1 (wr.setCell ⟨b5, 0, none⟩ (.int .i64 (max F 0))) := (((Fr.refl _ w1).grown gC (by simp)).trans hFr).setCell (.inl (by simp)) _
        exact ⟨h1.os, h1.tape, h1.output, h1.size, fun k hk _ => h1.block k hk (by simp; omega)⟩
      have s3f : (wr.setCell ⟨b5, 0, none⟩ (.int .i64 (max F 0))).cell? ⟨b2, 3, none⟩ = some (.int .i64 Bd) := (World.cell?_of_block (a := ⟨b2, 3, none⟩) (Below.heap_setCell _ _ _ _ hb25)).trans s3
      generalize hW : (wr.setCell ⟨b5, 0, none⟩ (.int .i64 (max F 0))) = wf at k5f hOpf hR5f hFf s3f
      obtain ⟨D, HW, hD0, hD1⟩ : ∃ D : List UInt8, Hid (Calls Tryz.prog 42 #[.agg #[.int .i64 (max F 0), .slice (some ⟨g5, 0, none⟩) n n, .slice av rows.length cv]] wf fun e w' => e = .returned (str D) ∧ wf.grownBy w' none) ∧ 0 < D.length ∧ D.length ≤ 50000000 := by
        have hq : ∀ k, k < n → 0 ≤ partCk (pos xs) nc k ∧ partCk (pos xs) nc k < 9223372036854775808 := fun k _ => by
          unfold partCk pos
          split
          · rename_i hk
            have := HC.out k hk
            omega
          · omega
        by_cases hF0 : 0 < F
        · have e : max F 0 = F := by omega
          refine ⟨digest n F (partCk (pos xs) nc), hide (by rw [e]; exact writeDigN F hF0 (by omega) n h8 _ hq _ _ wf hR5f), ?_, ?_⟩
          · unfold digest; rw [seal_len]; omega
          · have h1 := vbs_len (F :: clk n (partCk (pos xs) nc)) (fun x hx => by
              rcases List.mem_cons.1 hx with rfl | hx
              · omega
              · obtain ⟨k, hk, rfl⟩ := List.mem_map.1 hx
                exact (hq k (List.mem_range.1 hk)).2)
            rw [List.length_cons, clk_len] at h1
            unfold digest
            rw [seal_len, List.length_cons]
            omega
        · have e : max F 0 = 0 := by omega
          have hll := HLn.out.1
          refine ⟨batch n l, hide (by rw [e]; exact writeBatN n h8 l (by omega) HLn.out.2 _ _ wf hOpf), ?_, ?_⟩
          · unfold batch; rw [seal_len]; omega
          · have h4 := flat_lenN h8 l HLn.out.2
            have h5 := vb_len 8 l.length (by omega)
            unfold batch
            rw [seal_len, List.length_cons, List.length_append]
            omega
      have z0 : wf.cell? ⟨b5, 0, none⟩ = some (.int .i64 (max F 0)) := cell_blk k5f 0
      have z1 : wf.cell? ⟨b5, 1, none⟩ = some (.slice (some ⟨g5, 0, none⟩) n n) := cell_blk k5f 1
      have z2 : wf.cell? ⟨b5, 2, none⟩ = some (.slice av rows.length cv) := cell_blk k5f 2
      have HP := hide (fun w => pickL Bd 8 (by omega) (by omega) hB1 hB2 w)
      have hm8 := pk_lt Bd (n := 8) (by omega)
      generalize pk Bd 8 = m at HP hm8
      clear HO HC HLn HOp HVo hRo hRx hOpf hR5f kI hRl
      generalize rows.length = rl at HW z2 k5f ⊢
      go_upto_region 10 with fail
      clear hW y0 f0 s3 hmx nvo kr' K1 s2 hR5 hFr k5
      go_wp2_with fail
      refine HW.out.mono ?_
      rintro e w9 ⟨rfl, g9⟩
      have s39 := cell_of_grown s3f g9
      go_wp2_with fail
      refine (HP.out _).mono ?_
      rintro e w10 ⟨rfl, rfl⟩
      have hGf : w.grownBy w10 none := grown_trans g1 (grown_trans hFf.toGrown g9)
      clear HW HP hFf s3f s39 g9 k5f z0 z1 z2
      by_cases hm1 : m = 1
      · have hmb : ((m : Int) == 1) = true := by simp [hm1]
        obtain ⟨c, hc⟩ : ∃ c, D[D.length - 1]? = some c := ⟨D[D.length - 1]'(by omega), by rw [List.getElem?_eq_getElem]⟩
        obtain ⟨dl, hdl⟩ : ∃ dl, D.length = dl + 1 := ⟨D.length - 1, by omega⟩
        have hwd : IntKind.i64.wrap ((D.length : Int) - 1) = (dl : Int) := by rw [IntKind.wrap_i64]; omega
        have hix : ∀ w, (Instr.index 9 (str D) (.int .i64 (dl : Int))).run Tryz.prog w = .ok (.int .u8 (c.toNat : Int)) w := fun w => sindex D dl c (by rw [← hc]; congr 1; omega) w
        have hsl := fun w => str_take D dl (by omega) w
        have hcv := fun (w : World) (a : Nat) (h : w.cell? ⟨a, 0, none⟩ = some (.int .u8 (((c.toNat : Int) + 1) % 256))) => @conv1 w a _ h (by omega) (by omega)
        have hadd := fun w => sadd (D.take dl) [UInt8.ofNat ((c.toNat + 1) % 256)] (by simp; omega) w
        have HDL := hide hdl
        clear hm1 hc hdl hD0 hD1
        go_wp2_with fail
        go_big_region
        all_goals
          go_wp2_with fail
          exact bodyPost_ret (v := str (D.take dl ++ [UInt8.ofNat ((c.toNat + 1) % 256)])) (by simp [results, Tryz.results15, go_sem]) rfl ⟨_, rfl, grown_trans hGf (by repeat (first | exact grown_refl _ | refine grown_drew ?_ | refine grown_alloc ?_ _))⟩
      · have hmb : ((m : Int) == 1) = false := by simp; omega
        go_wp2_with fail
        exact bodyPost_ret (v := str D) (by simp [results, Tryz.results15, go_sem]) rfl ⟨D, rfl, hGf⟩

end Go.Proofs.YtachmkhbbbmioaaGreat
