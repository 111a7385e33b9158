import Derived.Test.YtachmkhbbbmioaaGreatNetLX
import Derived.Deep.RegionLaw
import Derived.Deep.AppendLies
namespace Go.Proofs.YtachmkhbbbmioaaGreat
open Go.RowKit Go.Shelf

set_option maxRecDepth 100000 in
set_option maxHeartbeats 4000000 in
theorem deletesK (base nb n : Nat) (N : NS) (j : Nat) (x : Cq) (w : World) (h : NI base nb N n w) (hj : N.cps[j]? = some x) (hb : base ≤ w.heap.size) (hK : N.wr.length + N.de.length < 90) (p : Int) (hp1 : -9223372036854775808 ≤ p) (hp2 : p ≤ 9223372036854775807) :
    Calls Tryz.prog 56 #[.pointer (some ⟨nb, 0, none⟩), x.ptr, .int .i64 p] w fun e w' => e = .returned (.bool true) ∧ ∃ N', NI base nb N' n w' ∧ NextN N N' ∧ Below base w w' := by
  obtain ⟨hI, hxn, hxs, hjn⟩ := h.inv hj
  have hrun := h.tx_run hj (by omega)
  have hlen := h.tx_len hj
  have hfree := h.free hj (by omega)
  have hxlt := (h.at_.cps j x hj).lt
  have HT := hide (qText x w (h.at_.cps j x hj) hI)
  have HR := hide (fun w => runesK (tx x.S) hrun hlen w)
  obtain ⟨m, hm⟩ : ∃ m, (tx x.S).length = m := ⟨_, rfl⟩
  have hmb : m ≤ 1000000 := by omega
  obtain ⟨aw, cw, hvw, hcw⟩ := h.at_.de.value
  rw [runeRow_len] at hvw hcw
  have HVW := hide hvw
  have hH := h.at_.lo
  obtain ⟨q, hq⟩ : ∃ q, N.de.length = q := ⟨_, rfl⟩
  have hqb : q < 90 := by omega
  by_cases hm0 : m = 0
  · have HP := hide (fun w => pickK p 3 (by omega) (by omega) hp1 hp2 w)
    have hk3 := pkK_lt p (n := 3) (by omega)
    obtain ⟨k, hk⟩ : ∃ k, pkK p 3 = k := ⟨_, rfl⟩
    rw [hk] at HP hk3
    have HD := hide (fun w (hx : x.At w) => qDelBad x k (.inr (by omega)) w hx hI)
    clear hk
    have e3 : ((3 : Nat) : Int) = 3 := rfl
    rw [e3] at HP
    go_enter Tryz.func56, Tryz.ntmps56
    go_wp2_with fail
    refine HT.out.mono ?_
    rintro e w1 ⟨rfl, hx1, hF1⟩
    go_wp2_with fail
    refine (HR.out w1).mono ?_
    rintro e w2 ⟨v1, rfl, hv1, hg1, g2⟩
    have hF2 : Fr x.own w w2 := hF1.grown g2 (by simp)
    have hx2 : x.At w2 := hx1.kept (fun k hk => g2.block k (hx1.lt k hk) (by simp))
    obtain ⟨av, cv, hv1e, hcv⟩ := hv1.value
    rw [runeRow_len, hm, hm0] at hv1e
    have HD2 := hide (HD.out w2 hx2)
    subst hv1e
    have e0 : ((0 : Nat) : Int) = 0 := rfl
    go_wp2_with (go_at_call 20; refine (HP.out _).mono ?_; rintro e w' ⟨rfl, hw⟩; rw [hw]; clear hw w')
    refine HD2.out.mono ?_
    rintro e w3 ⟨rfl, hx3, hF3⟩
    have hF3' : Fr x.own w w3 := hF2.trans hF3
    obtain ⟨hN3, hB3⟩ := h.at_.same hj hb hx3 hF3'
    go_wp2_with fail
    go_ret
    exact ⟨rfl, N, ⟨hN3, h.len, h.ok, h.air⟩, NextN.refl N, hB3⟩
  have hm1 : 1 ≤ m := by omega
  have hz0 : ((m : Int) == 0) = false := by simp; omega
  have HP := hide (fun w => pickK p m (by omega) (by omega) hp1 hp2 w)
  have hkl := pkK_lt p (n := m) (by omega)
  obtain ⟨k, hk⟩ : ∃ k, pkK p m = k := ⟨_, rfl⟩
  rw [hk] at hkl HP
  have HIns := hide (fun w (hx : x.At w) => qDel x k (by omega) hfree w hx hI)
  clear hk hm0
  go_enter Tryz.func56, Tryz.ntmps56
  go_wp2_with fail
  refine HT.out.mono ?_
  rintro e w1 ⟨rfl, hx1, hF1⟩
  go_wp2_with fail
  refine (HR.out w1).mono ?_
  rintro e w2 ⟨v1, rfl, hv1, hg1, g2⟩
  have hF2 : Fr x.own w w2 := hF1.grown g2 (by simp)
  have hx2 : x.At w2 := hx1.kept (fun k hk => g2.block k (hx1.lt k hk) (by simp))
  have hs2 : w.heap.size ≤ w2.heap.size := hF2.size
  have hg1' : ∀ g, v1.ownBlock = some g → w.heap.size ≤ g := fun g hg => Nat.le_trans hF1.size (hg1 g hg)
  obtain ⟨av, cv, hv1e, hcv⟩ := hv1.value
  rw [runeRow_len, hm] at hv1e hcv
  have hnb2 : w2.heap[nb]? = some (netCells N.vl N.va N.vw N.vd) := (hF2.block nb (lt_of_heap h.at_.cp) ((h.at_.apart hj).1 nb (by simp [NS.own]))).trans h.at_.cp
  have c2 : w2.cell? ⟨nb, 3, none⟩ = some (.slice aw q cw) := by rw [← hq, ← HVW.out]; exact cell_blk hnb2 3
  have HI2 := hide (HIns.out w2 hx2)
  subst hv1e
  go_wp2_with (go_at_call 20; refine (HP.out _).mono ?_; rintro e w' ⟨rfl, hw⟩; rw [hw]; clear hw w')
  refine HI2.out.mono ?_
  rintro e w3 ⟨rfl, A, yy, R, hLL, hAl, hyd, hx3, hF3⟩
  have eC := NS.C_at hj
  have hins := h.ok.del hjn (by omega) (A := A) (R := R) (e := yy) (by rw [eC]; exact hLL)
  rw [eC] at hins
  obtain ⟨a, b, ht1, ht2, hal⟩ := tx_del hLL hAl hyd (bump x.S.cl (x.S.s - 1)) (x.S.g + 1) (opDel x.S yy.c yy.k :: x.S.ops)
  obtain ⟨S', hS'⟩ : ∃ S', { x.S with cl := bump x.S.cl (x.S.s - 1), g := x.S.g + 1, L := A ++ gone yy :: R, ops := opDel x.S yy.c yy.k :: x.S.ops } = S' := ⟨_, rfl⟩
  rw [hS'] at hins ht2
  have hx3' : Cq.At { x with S := S' } w3 := by rw [← hS']; exact hx3
  obtain ⟨hap, hok⟩ := hins
  have hgm : ∀ z, Gm n N.C z → Gm n (updC N.C j S') z := fun z hz => by
    have := gm_apply (i := j) (x := opDel x.S yy.c yy.k) hz
    rw [eC, hap] at this
    exact this
  rw [hap] at hok
  have hI' : Inv S' := by have := hok.b.inv j hjn; rw [updC_same] at this; exact this
  clear hx3 hap hS' HIns HI2 hLL hAl hyd
  generalize hre : yy.r = r at hok ht1
  clear hre
  have hF3' : Fr x.own w w3 := hF2.trans hF3
  have hrun' : ∀ r ∈ tx S', Run r := fun r hr => by
    rw [ht2] at hr
    rcases List.mem_append.1 hr with hr | hr
    · exact hrun r (by rw [ht1]; simp [hr])
    · exact hrun r (by rw [ht1]; simp [hr])
  have hml : a.length + b.length + 1 = m := by rw [← hm, ht1, List.length_append, List.length_cons]; omega
  have HT3 := hide (qText { x with S := S' } w3 hx3' hI')
  have HR3 := hide (fun w => runesK (tx S') hrun' (by have := hI'.good.len; simpa [tx] using this) w)
  have HT1 := hide ht1
  have HT2 := hide ht2
  clear ht1 ht2 hm
  go_wp2_with fail
  refine HT3.out.mono ?_
  rintro e w4 ⟨rfl, hx4, hF4⟩
  go_wp2_with fail
  refine (HR3.out w4).mono ?_
  rintro e w5 ⟨v2, rfl, hv2, hg2, g5⟩
  clear HT HR HP HT3 HR3
  have hF4' : Fr x.own w w4 := hF3'.trans hF4
  have hF5 : Fr x.own w w5 := hF4'.grown g5 (by simp)
  have hx5 : Cq.At { x with S := S' } w5 := hx4.kept (fun k hk => g5.block k (hx4.lt k hk) (by simp))
  obtain ⟨hN5, hB5⟩ := h.at_.turn hj hb hx5 hF5
  have hg2' : ∀ g, v2.ownBlock = some g → w.heap.size ≤ g := fun g hg => Nat.le_trans hF4'.size (hg2 g hg)
  have hv1' : RowAt 21 1 (.slice av m cv) (runeRow (a ++ r :: b)) w5 := by
    rw [← HT1.out]
    have key : ∀ k, w.heap.size ≤ k → k ∉ x.own := fun k hk q => by have := hxlt k q; omega
    exact (((hv1.kept (fun g hg => hF3.block g (hv1.lt hg) (key g (hg1' g hg)))).kept (fun g hg => hF4.block g (Nat.lt_of_lt_of_le (hv1.lt hg) hF3.size) (key g (hg1' g hg))))).grown g5
  rw [HT2.out] at hv2
  obtain ⟨au, cu, hv2e, hcu⟩ := hv2.value
  obtain ⟨m2, hm2⟩ : ∃ m2, m2 + 1 = m := ⟨m - 1, by omega⟩
  have hru : (runeRow (a ++ b)).length = m2 := by rw [runeRow_len, List.length_append]; omega
  rw [hru] at hv2e hcu
  subst hv2e
  obtain ⟨g1k, c1k, cur1k, hv1k, -, hb1k, hcell1⟩ := hv1'.cell (i := k) (runeRow_at (r := r) (by rw [← hal]; simp))
  have hru1 : (runeRow (a ++ r :: b)).length = m := by rw [runeRow_len, List.length_append, List.length_cons]; omega
  rw [hru1] at hv1k
  cases hv1k
  have k2 : w5.cell? ⟨g1k, k, none⟩ = some (.int .i32 r) := (cell_blk hb1k _).trans (by simpa using hcell1 0 _ rfl)
  have hne1 : ((m2 : Int) != (m : Int) - 1) = false := by simp; omega
  have hkm : (k : Int) < (m : Int) := by omega
  have hm2b : m2 ≤ 1000000 := by omega
  have HM2 := hide hm2
  have HML := hide hml
  have HAL := hide hal
  clear hm2 hml hal hru hru1 hcell1 hb1k
  have hnb5 := hN5.cp
  have c5 : w5.cell? ⟨nb, 3, none⟩ = some (.slice aw q cw) := by rw [← hq, ← HVW.out]; exact cell_blk hnb5 3
  clear hv1 hx4 hx3' hx1 hx2 c2 hnb2
  have hKK := hide hK
  clear hkl hK hcv hcw hvw
  go_upto_region 10 with fail
  obtain ⟨i0, hi0, hz0', hz1', hz2'⟩ := info_parts infoRuneK
  have hwlt : nb < w5.heap.size := lt_of_heap hN5.cp
  have nww : (Value.slice aw q cw).ownBlock ≠ some nb := by rw [← hq, ← HVW.out]; exact hN5.de.neBlk hN5.cp (by decide)
  have hown5 : w5.ownsRow 0 21 1 (.slice aw q cw) q (runeRow N.de).flatten := by
    have := hN5.de.1
    rw [runeRow_len] at this
    rw [← hq, ← HVW.out]; exact this
  have hb5 : base ≤ w5.heap.size := Nat.le_trans hb hF5.size
  have hsz5 : w.heap.size ≤ w5.heap.size := hF5.size
  have hw5 : w5.heap[nb]? = some (netCells N.vl N.va N.vw N.vd) := hnb5
  clear hnb5
  go_region_law ((refine step_append_lies _ (by rfl) _ _ _ (by rfl) 0 21 i0 _ 1 4 Tryz.underlying56 hi0 hz0' hz1' hz2' rfl (by omega) (.slice aw q cw) q (runeRow N.de).flatten (by rfl) ((hown5.alloc _).drew) ⟨w5.heap.size, 0, none⟩ 1 1 [.int .i32 r] (by rfl) (by rfl) (World.news_of_block (cs := #[.int .i32 r]) (t := 21) (fr := (0, 0)) (heap_alloc_new w5 _)) (by simp [Value.oneCell']) (by omega) (by unfold maxLen; omega) (by omega) (by simp) (w5.heap.size + 1) (by simp) ?_; intro gg capL w6 hown1 hgrow hat hlt6; have y5 : w6.heap[nb]? = w5.heap[nb]? := (hgrow.block nb (by simp; omega) (Ne.symm nww)).trans (Below.heap_alloc _ _ _ hwlt); have y4 : w6.cell? ⟨nb, 3, none⟩ = some (.slice aw q cw) := (World.cell?_of_block (a := ⟨nb, 3, none⟩) y5).trans c5; have f4 : w6.frozen? ⟨nb, 3, none⟩ = false := (World.frozen?_of_block (a := ⟨nb, 3, none⟩) y5).trans (frozen_blk hw5 3)))
  all_goals
    have hgr : w5.grownBy w6 (Value.slice aw q cw).ownBlock := grown_pre hgrow
    have nwa : N.vd.ownBlock = (Value.slice aw q cw).ownBlock := by rw [← hq, ← HVW.out]
    have ngw : gg ≠ nb := fun e => by
      rcases hat with hat | hat
      · exact nww (e ▸ hat)
      · omega
    obtain ⟨hM, hBM⟩ := hN5.deleted (vd' := .slice (some ⟨gg, 0, none⟩) (q + 1) capL) (de' := N.de ++ [r]) (w' := w6.setCell ⟨nb, 3, none⟩ (.slice (some ⟨gg, 0, none⟩) (q + 1) capL)) hb5 ((set_blk (y5.trans hw5)).trans rfl) (by
      have hr6 : RowAt 21 1 (.slice (some ⟨gg, 0, none⟩) (q + 1) capL) (runeRow (N.de ++ [r])) w6 := by
        refine ⟨?_, rune_len _⟩
        rw [runeRow_len, runeRow_flat]
        rw [runeRow_flat] at hown1
        simpa [hq] using hown1
      exact hr6.kept (fun g hg => Below.heap_setCell _ _ _ _ (by cases hg; exact ngw))) (((Fr.refl _ _).grown hgr (fun k hk => .inl (by rw [← nwa] at hk; simp [hk]))).setCell (p := ⟨nb, 3, none⟩) (.inl (by simp)) _) (fun g hg => by
      cases hg
      rcases hat with hat | hat
      · exact .inl (by rw [nwa]; exact hat)
      · exact .inr (show w5.heap.size ≤ gg by omega))
    have hnbw : nb < w.heap.size := lt_of_heap h.at_.cp
    have key8 : ∀ g, w.heap.size ≤ g → g < w5.heap.size → (w6.setCell ⟨nb, 3, none⟩ (.slice (some ⟨gg, 0, none⟩) (q + 1) capL)).heap[g]? = w5.heap[g]? := fun g h1 h2 => by
      rw [Below.heap_setCell _ _ _ _ (show g ≠ nb by omega)]
      exact hgr.block g h2 (fun e => by rw [← nwa] at e; have := h.at_.de.lt e.symm; omega)
    have hg1'' : ∀ g, (Value.slice (some ⟨g1k, 0, none⟩) m cv).ownBlock = some g → w.heap.size ≤ g := hg1'
    have hrow2 : RowAt 21 1 (.slice (some ⟨g1k, 0, none⟩) m cv) (runeRow (a ++ r :: b)) (w6.setCell ⟨nb, 3, none⟩ (.slice (some ⟨gg, 0, none⟩) (q + 1) capL)) := hv1'.kept (fun g hg => key8 g (hg1'' g hg) (hv1'.lt hg))
    have hrow1 : RowAt 21 1 (.slice au m2 cu) (runeRow (a ++ b)) (w6.setCell ⟨nb, 3, none⟩ (.slice (some ⟨gg, 0, none⟩) (q + 1) capL)) := hv2.kept (fun g hg => key8 g (hg2' g hg) (hv2.lt hg))
    have hBw : Below base w (w6.setCell ⟨nb, 3, none⟩ (.slice (some ⟨gg, 0, none⟩) (q + 1) capL)) := hB5.trans hBM
    have hCN := NS.C_set hj S'
    have hNI : NI base nb { vl := N.vl, va := N.va, vw := N.vw, vd := .slice (some ⟨gg, 0, none⟩) (q + 1) capL, cps := N.cps.set j { x with S := S' }, air := N.air, wr := N.wr, de := N.de ++ [r] } n (w6.setCell ⟨nb, 3, none⟩ (.slice (some ⟨gg, 0, none⟩) (q + 1) capL)) := by
      refine ⟨hM, by simp [h.len], ?_, fun s hs => ?_⟩
      · show NetOk n (NS.C { N with cps := N.cps.set j { x with S := S' } }) N.wr (N.de ++ [r])
        rw [hCN]; exact hok
      · show DgOk n (Gm n (NS.C { N with cps := N.cps.set j { x with S := S' } })) s
        rw [hCN]; exact (h.air s hs).mono hgm
    have HNI := hide hNI
    clear hNI hM hBM key8 hv1' hv2 hown1 hgr hgrow hat y5 y4 f4 hown5 hN5 hB5 hok hgm hrun hrun' hF5 hF4' hF4 hF3' hF3 hF2 hF1 hI' hI hfree hxn hxs eC hx5 c5 k2 hCN
    generalize (w6.setCell ⟨nb, 3, none⟩ (.slice (some ⟨gg, 0, none⟩) (q + 1) capL)) = w8 at HNI hrow1 hrow2 hBw ⊢
    have hb8 : base ≤ w8.heap.size := Nat.le_trans hb hBw.size
    go_wp2_with fail
    go_loopg [12, 13] m2 (fun gk s12 _s13 wr => ∃ (i : Nat), s12 = .int .i64 i ∧ i ≤ m2 ∧ gk = m2 - i ∧ w8.grownBy wr none)
    case atStart => exact ⟨0, rfl, by omega, rfl, grown_refl _⟩
    case round =>
      obtain ⟨i, rfl, him, hgk, hG⟩ := hrel
      by_cases hlt : i < m2
      · have hli : (i : Int) < (m2 : Int) := by omega
        have hml := HML.out
        have hal := HAL.out
        have hm2' := HM2.out
        obtain ⟨y, hy⟩ : ∃ y, (a ++ b)[i]? = some y := ⟨(a ++ b)[i]'(by simp; omega), by simp⟩
        obtain ⟨g3k, c3k, cur1, hv1k, -, hb1, hx1⟩ := (hrow1.grown hG).cell (i := i) (runeRow_at hy)
        have hl1 : (runeRow (a ++ b)).length = m2 := by rw [runeRow_len]; simp; omega
        rw [hl1] at hv1k
        cases hv1k
        have k1 : wr.cell? ⟨g3k, i, none⟩ = some (.int .i32 y) := (cell_blk hb1 _).trans (by simpa using hx1 0 _ rfl)
        have hny : (y != y) = false := by simp
        have hl2 : (runeRow (a ++ r :: b)).length = m := by rw [runeRow_len]; simp; omega
        by_cases hik : i < k
        · have hiki : ¬ (k : Int) ≤ (i : Int) := by omega
          have hz : (a ++ r :: b)[i]? = some y := by
            rw [List.getElem?_append_left (by omega)] at hy ⊢
            exact hy
          obtain ⟨g3, c3, cur3, hv3, -, hb3, hx3⟩ := (hrow2.grown hG).cell (i := i) (runeRow_at hz)
          rw [hl2] at hv3
          cases hv3
          have k3 : wr.cell? ⟨g1k, i, none⟩ = some (.int .i32 y) := (cell_blk hb3 _).trans (by simpa using hx3 0 _ rfl)
          have him2 : (i : Int) < (m : Int) := by omega
          clear hx3 hb3 hx1 hb1 hml hal hl1 hl2 hy hz hm2'
          go_wp2_with fail
          go_quiet (fail)
          go_wp2_with fail
          go_roundg (m2 - (i + 1))
          case measure => omega
          case rel => exact ⟨i + 1, by go_num, by omega, rfl, grown_trans hG (grown_drewN _ _)⟩
        · have hiki : (k : Int) ≤ (i : Int) := by omega
          have hz : (a ++ r :: b)[i + 1]? = some y := by
            rw [List.getElem?_append_right (by omega)] at hy ⊢
            rw [show i + 1 - a.length = (i - a.length) + 1 by omega, List.getElem?_cons_succ]
            exact hy
          obtain ⟨g3, c3, cur3, hv3, -, hb3, hx3⟩ := (hrow2.grown hG).cell (i := i + 1) (runeRow_at hz)
          rw [hl2] at hv3
          cases hv3
          have k3 : wr.cell? ⟨g1k, i + 1, none⟩ = some (.int .i32 y) := (cell_blk hb3 _).trans (by simpa using hx3 0 _ rfl)
          have him2 : (i : Int) + 1 < (m : Int) := by omega
          clear hx3 hb3 hx1 hb1 hml hal hl1 hl2 hy hz hm2'
          go_wp2_with fail
          go_quiet (fail)
          go_wp2_with fail
          go_roundg (m2 - (i + 1))
          case measure => omega
          case rel => exact ⟨i + 1, by go_num, by omega, rfl, grown_trans hG (grown_drewN _ _)⟩
      · have hli : ¬ (i : Int) < (m2 : Int) := by omega
        go_wp2_with fail
        go_ret
        refine ⟨rfl, _, ⟨HNI.out.at_.grown hG, HNI.out.len, HNI.out.ok, HNI.out.air⟩, ⟨rfl, by simp, by simp; omega, by simp⟩, hBw.grown hG hb8 (by simp)⟩

end Go.Proofs.YtachmkhbbbmioaaGreat

namespace Go.Proofs.YtachmkhbbbmioaaGreat
open Go.RowKit Go.Shelf

theorem tdivK (b : Int) (n : Nat) (hn : 0 < n) (hb1 : -9223372036854775808 ≤ b) (hb2 : b ≤ 9223372036854775807) : -9223372036854775808 ≤ b.tdiv n ∧ b.tdiv n ≤ 9223372036854775807 := by
  have key : ∀ m : Int, 0 ≤ m → 0 ≤ m.tdiv n ∧ m.tdiv n ≤ m := fun m hm => ⟨Int.tdiv_nonneg hm (by omega), Int.tdiv_le_self _ hm⟩
  rcases Int.le_total 0 b with h | h
  · have := key b h; omega
  · have h2 := key (-b) (by omega)
    have e : b.tdiv n = -((-b).tdiv n) := by rw [Int.neg_tdiv]; omega
    omega

/-- One bit turned: another byte. -/
theorem xor_ne (c : UInt8) {m : Nat} (hm : m < 8) : UInt8.ofNat (bits .xor .u8 (c.toNat : Int) (2 ^ m % 256)).toNat ≠ c := by
  intro e
  have e1 := congrArg UInt8.toNat e
  have hc := c.toNat_lt
  have hb : bits .xor .u8 (c.toNat : Int) (2 ^ m % 256) = IntKind.u8.wrap ((BitVec.ofInt 8 (c.toNat : Int) ^^^ BitVec.ofInt 8 (2 ^ m % 256)).toNat : Int) := rfl
  rw [hb, IntKind.wrap_u8] at e1
  have hl := (BitVec.ofInt 8 (c.toNat : Int) ^^^ BitVec.ofInt 8 (2 ^ m % 256)).isLt
  have e2 : (BitVec.ofInt 8 (c.toNat : Int) ^^^ BitVec.ofInt 8 (2 ^ m % 256)).toNat = c.toNat := by
    simp only [UInt8.toNat_ofNat'] at e1
    omega
  have e3 : (BitVec.ofInt 8 (c.toNat : Int)).toNat = c.toNat := by
    rw [BitVec.toNat_ofInt]
    omega
  have e4 : BitVec.ofInt 8 (c.toNat : Int) ^^^ BitVec.ofInt 8 (2 ^ m % 256) = BitVec.ofInt 8 (c.toNat : Int) := BitVec.eq_of_toNat_eq (e2.trans e3.symm)
  have e5 : BitVec.ofInt 8 (2 ^ m % 256) = 0#8 := by
    have h2 := congrArg (BitVec.ofInt 8 (c.toNat : Int) ^^^ ·) e4
    simp only [← BitVec.xor_assoc, BitVec.xor_self, BitVec.zero_xor] at h2
    exact h2
  have : m = 0 ∨ m = 1 ∨ m = 2 ∨ m = 3 ∨ m = 4 ∨ m = 5 ∨ m = 6 ∨ m = 7 := by omega
  rcases this with rfl | rfl | rfl | rfl | rfl | rfl | rfl | rfl <;> exact absurd e5 (by decide)

set_option maxRecDepth 100000 in
set_option maxHeartbeats 4000000 in
theorem spoiltK (s : List UInt8) (h0 : 0 < s.length) (hl : s.length ≤ 400000) (b : Int) (hb1 : -9223372036854775808 ≤ b) (hb2 : b ≤ 9223372036854775807) (w : World) :
    Calls Tryz.prog 33 #[str s, .int .i64 b] w fun e w' => ∃ t : List UInt8, e = .returned (str t) ∧ (∃ A R x y, s = A ++ x :: R ∧ t = A ++ y :: R ∧ x ≠ y) ∧ w.grownBy w' none := by
  have hP1 := fun w => pickK b s.length h0 (by omega) hb1 hb2 w
  have hil := pkK_lt b h0
  have HP2 := hide (fun c h1 h2 w => pickK c 8 (by omega) (by omega) h1 h2 w)
  generalize pkK b s.length = i at hP1 hil
  have HP1 := hide hP1
  clear hP1
  have hne : ¬ (s.length : Int) = 0 := by omega
  go_enter Tryz.func33, Tryz.ntmps33
  go_wp2_with fail
  refine (HP1.out _).mono ?_
  rintro e w1 ⟨rfl, rfl⟩
  go_wp2_with fail
  obtain ⟨q1, q2⟩ := tdivK b s.length h0 hb1 hb2
  have hm8 := pkK_lt (b.tdiv s.length) (n := 8) (by omega)
  have HP3 := hide (HP2.out (b.tdiv s.length) q1 q2)
  generalize pkK (b.tdiv s.length) 8 = m at HP3 hm8
  refine (HP3.out _).mono ?_
  rintro e w2 ⟨rfl, rfl⟩
  obtain ⟨c, hc⟩ : ∃ c, s[i]? = some c := ⟨s[i], by simp [hil]⟩
  have hix : ∀ w, (Instr.index 9 (str s) (.int .i64 (i : Int))).run Tryz.prog w = .ok (.int .u8 (c.toNat : Int)) w := fun w => sindex s i c hc w
  have hsl := fun w => str_take s i (by omega) w
  have hsd := fun w => str_drop s (i + 1) (by omega) w
  have hwi : IntKind.i64.wrap ((i : Int) + 1) = (i : Int) + 1 := by rw [IntKind.wrap_i64]; omega
  rw [show ((i + 1 : Nat) : Int) = (i : Int) + 1 by omega] at hsd
  have hX : 0 ≤ bits .xor .u8 (c.toNat : Int) (2 ^ m % 256) ∧ bits .xor .u8 (c.toNat : Int) (2 ^ m % 256) < 256 := by
    show 0 ≤ IntKind.u8.wrap _ ∧ IntKind.u8.wrap _ < 256
    rw [IntKind.wrap_u8]
    omega
  have hcv := fun (w : World) (a : Nat) (h : w.cell? ⟨a, 0, none⟩ = some (.int .u8 (bits .xor .u8 (c.toNat : Int) (2 ^ m % 256)))) => @conv1 w a _ h hX.1 hX.2
  have HE : Hid (s = s.take i ++ c :: s.drop (i + 1) ∧ c ≠ UInt8.ofNat (bits .xor .u8 (c.toNat : Int) (2 ^ m % 256)).toNat) := by
    refine hide ⟨?_, (xor_ne c hm8).symm⟩
    obtain ⟨h1, h2⟩ := List.getElem?_eq_some_iff.1 hc
    rw [← h2, ← List.drop_eq_getElem_cons h1, List.take_append_drop]
  clear hX hc
  go_wp2_with fail
  go_region
  all_goals
    go_wp2_with fail
    have hBB : ((⟨(s.take i).toArray⟩ : ByteArray) ++ ⟨#[UInt8.ofNat (bits .xor .u8 (c.toNat : Int) (2 ^ m % 256)).toNat]⟩ ++ ⟨(s.drop (i + 1)).toArray⟩) = ⟨(s.take i ++ UInt8.ofNat (bits .xor .u8 (c.toNat : Int) (2 ^ m % 256)).toNat :: s.drop (i + 1)).toArray⟩ := by
      apply ByteArray.ext
      simp [ByteArray.data_append]
    rw [hBB]
    exact bodyPost_ret (v := str (s.take i ++ UInt8.ofNat (bits .xor .u8 (c.toNat : Int) (2 ^ m % 256)).toNat :: s.drop (i + 1))) (by simp [results, Tryz.results33, go_sem]) rfl ⟨_, rfl, ⟨_, _, _, _, HE.out.1, rfl, HE.out.2⟩, by repeat (first | exact grown_refl _ | refine grown_drew ?_ | refine grown_alloc ?_ _)⟩

end Go.Proofs.YtachmkhbbbmioaaGreat

namespace Go.Proofs.YtachmkhbbbmioaaGreat
open Go.RowKit Go.Shelf

theorem Cq.At.grown {x : Cq} {w w' : World} (h : x.At w) (g : w.grownBy w' none) : x.At w' := h.kept (fun k hk => g.block k (h.lt k hk) (by simp))

/-- A list that came out lately is turned by no call of a copy. -/
theorem RowAt.call {e : TypeId} {k : Nat} {v : Value} {xs : List (List Value)} {w w' : World} (h : RowAt e k v xs w) {x : Cq} {H : Nat} (hx : ∀ k ∈ x.own, k < H) (hg : ∀ g, v.ownBlock = some g → H ≤ g) (hF : Fr x.own w w') : RowAt e k v xs w' :=
  h.kept (fun g hgg => hF.block g (h.lt hgg) (fun q => by have := hx g q; have := hg g hgg; omega))

set_option maxRecDepth 100000 in
set_option maxHeartbeats 2000000 in
/-- Bytes that are no frame change nothing. -/
theorem deafK (base nb n : Nat) (N : NS) (j : Nat) (x : Cq) (w : World) (h : NI base nb N n w) (hj : N.cps[j]? = some x) (hb : base ≤ w.heap.size) (D : List UInt8) (hD : NoFr n D) :
    Calls Tryz.prog 32 #[.pointer (some ⟨nb, 0, none⟩), x.ptr, str D] w fun e w' => e = .returned (.bool true) ∧ NI base nb N n w' ∧ Below base w w' ∧ Fr x.own w w' := by
  obtain ⟨hI, hxn, hxs, hjn⟩ := h.inv hj
  have hx0 := h.at_.cps j x hj
  have hxlt := hx0.lt
  have hw8 : x.S.wt.length ≤ 16 := hI.wo.len
  have HT := hide (fun w hx => qText x w hx hI)
  have HC := hide (fun w hx => qClock x w hx hI)
  have HP := hide (fun w hx => qPending x w hx)
  have HD := hide (fun w (hx : x.At w) => (qHandNo x D (by rw [hxn]; exact hD) w hx hI).mono (R' := fun e w1 => ∃ ao co, e = .returned (.tuple #[.slice ao 0 co, .int .i64 6]) ∧ x.At w1 ∧ Fr x.own w w1) (fun e w1 ⟨h1, h2⟩ => ⟨none, 0, h1, h2⟩))
  have HS := hide (fun v u w hv hu => sameIntsK x.S x.S hI.good.n8 rfl v u w hv hu)
  have hpe : ((x.S.wt.length : Int) == (x.S.wt.length : Int)) = true := by simp
  have h66 : ((6 : Int) == 6) = true := by decide
  generalize hpl : x.S.wt.length = pl at hw8 HP hpe
  generalize htt : txtR (tx x.S) = tt at HT
  clear htt hpl
  go_enter Tryz.func32, Tryz.ntmps32
  go_wp2_with fail
  refine (HT.out w hx0).mono ?_
  rintro e w1 ⟨rfl, hx1, hF1⟩
  go_wp2_with fail
  refine (HC.out w1 hx1).mono ?_
  rintro e w2 ⟨v, rfl, hv, hvg, hx2, hF2⟩
  have hvg' : ∀ g, v.ownBlock = some g → w.heap.size ≤ g := fun g hg => Nat.le_trans hF1.size (hvg g hg)
  go_wp2_with fail
  refine (HP.out w2 hx2).mono ?_
  rintro e w3 ⟨rfl, hx3, hF3⟩
  go_wp2_with fail
  refine (HD.out w3 hx3).mono ?_
  rintro e w4 ⟨ao, co, rfl, hx4, hF4⟩
  go_wp2_with fail
  refine (HT.out w4 hx4).mono ?_
  rintro e w5 ⟨rfl, hx5, hF5⟩
  go_wp2_with fail
  refine (HC.out w5 hx5).mono ?_
  rintro e w6 ⟨u, rfl, hu, hug, hx6, hF6⟩
  have hv6 := ((((hv.call hxlt hvg' hF3).call hxlt hvg' hF4).call hxlt hvg' hF5).call hxlt hvg' hF6)
  go_wp2_with fail
  refine (HS.out v u w6 hv6 hu).mono ?_
  rintro e w7 ⟨b, rfl, hbt, g7⟩
  have hb1 : b = true := hbt.2 (by intros; first | rfl | trivial)
  subst hb1
  have hx7 := hx6.grown g7
  have hF7 : Fr x.own w w7 := ((((((hF1.trans hF2).trans hF3).trans hF4).trans hF5).trans hF6).grown g7 (by simp))
  have HX7 := hide hx7
  have HF7 := hide hF7
  clear hbt hv hv6 hu hvg hug hvg' hF1 hF2 hF3 hF4 hF5 hF6 hx1 hx2 hx3 hx4 hx5 hx6 hx7 hF7 g7 hx0 hxlt HT HC HD HS hI hxn hxs
  go_wp2_with fail
  refine (HP.out w7 HX7.out).mono ?_
  rintro e w8 ⟨rfl, hx8, hF8⟩
  have hF : Fr x.own w w8 := HF7.out.trans hF8
  obtain ⟨hN8, hB8⟩ := h.at_.same hj hb hx8 hF
  go_wp2_with fail
  go_ret
  exact ⟨rfl, ⟨hN8, h.len, h.ok, h.air⟩, hB8, hF⟩

end Go.Proofs.YtachmkhbbbmioaaGreat

namespace Go.Proofs.YtachmkhbbbmioaaGreat
open Go.RowKit Go.Shelf

theorem atI_pos {l : List Int} {r : Int} (h : r ∈ l) : 0 ≤ atI l r 0 := by
  obtain ⟨k, h1, -, -⟩ := atI_in (i := 0) h
  omega
theorem atI_bd (l : List Int) (r : Int) : -1 ≤ atI l r 0 ∧ atI l r 0 < l.length + 1 := by
  by_cases q : r ∈ l
  · obtain ⟨k, h1, h2, -⟩ := atI_in (i := 0) q
    have := (List.getElem?_eq_some_iff.1 h2).1
    omega
  · rw [atI_out q]; omega

set_option maxRecDepth 100000 in
set_option maxHeartbeats 2000000 in
theorem onceK (base nb : Nat) (N : NS) (w : World) (h : NAt base nb N w) (hwl : N.wr.length ≤ 1000) (rs : List Int) (hl : rs.length ≤ 1000000) (hm : ∀ r ∈ rs, r ∈ N.wr) (hn : rs.Nodup) (v : Value) (hv : RowAt 21 1 v (runeRow rs) w) :
    Calls Tryz.prog 27 #[.pointer (some ⟨nb, 0, none⟩), v] w fun e w' => e = .returned (.bool true) ∧ w.grownBy w' none := by
  obtain ⟨av, cv, hve, hcv⟩ := hv.value
  rw [runeRow_len] at hcv hve
  obtain ⟨aw, cw, hvw, hcw⟩ := h.wr.value
  rw [runeRow_len] at hvw hcw
  have HVW := hide hvw
  have HVE := hide hve
  have HA := hide (fun (w' : World) (g : w.grownBy w' none) (r : Int) => atK N.wr (by omega) r N.vw w' (h.wr.grown g))
  have HB := hide (fun (w' : World) (g : w.grownBy w' none) (r : Int) => atK rs hl r v w' (hv.grown g))
  rw [hvw] at HA
  subst hve
  obtain ⟨m, hmm⟩ : ∃ m, rs.length = m := ⟨_, rfl⟩
  rw [hmm] at hcv HVE HB hv hl ⊢
  obtain ⟨q, hq⟩ : ∃ q, N.wr.length = q := ⟨_, rfl⟩
  rw [hq] at HA HVW hcw hwl
  clear hvw
  have HM := hide hm
  have HN := hide hn
  have HMM := hide hmm
  clear hm hn hmm
  go_enter Tryz.func27, Tryz.ntmps27
  go_wp2_with fail
  go_loopg [5, 6] m (fun gk s5 _s6 wr => ∃ (i : Nat), s5 = .int .i64 i ∧ i ≤ m ∧ gk = m - i ∧ w.grownBy wr none)
  case atStart => exact ⟨0, rfl, by omega, rfl, grown_refl _⟩
  case round =>
    obtain ⟨i, rfl, him, hgk, hG⟩ := hrel
    by_cases hlt : i < m
    · have hli : (i : Int) < (m : Int) := by omega
      obtain ⟨y, hy⟩ : ∃ y, rs[i]? = some y := ⟨rs[i]'(by have := HMM.out; omega), by simp⟩
      have hyw := HM.out y (List.mem_of_getElem? hy)
      have hp0 := atI_pos hyw
      have hpb := atI_bd N.wr y
      have hself := atI_nodup HN.out hy
      obtain ⟨g1, c1, cur1, hv1, -, hb1, hx1⟩ := (hv.grown hG).cell (i := i) (runeRow_at hy)
      rw [runeRow_len, HMM.out] at hv1
      cases hv1
      have k1 : wr.cell? ⟨g1, i, none⟩ = some (.int .i32 y) := (cell_blk hb1 _).trans (by simpa using hx1 0 _ rfl)
      have c2 : wr.cell? ⟨nb, 2, none⟩ = some (.slice aw q cw) := by rw [← HVW.out]; exact cell_of_grown (cell_blk h.cp 2) hG
      have HA1 := hide (fun n : Nat => HA.out (wr.drewN n) (grown_trans hG (grown_drewN _ _)) y)
      have HB1 := hide (fun n : Nat => HB.out (wr.drewN n) (grown_trans hG (grown_drewN _ _)) y)
      rw [hself] at HB1
      obtain ⟨t, ht⟩ : ∃ t, atI N.wr y 0 = t := ⟨_, rfl⟩
      rw [ht] at HA1 hp0 hpb
      rw [hq] at hpb
      have hnt : ¬ t < 0 := by omega
      have hni : ((i : Int) != (i : Int)) = false := by simp
      clear hx1 hb1 hself ht hy hyw HA HB
      go_wp2_with fail
      go_quiet ((go_at_call 29; exact Calls.quiet_of_same (HA1.out _)))
      have k1' : (wr.drewN nq).cell? ⟨g1, i, none⟩ = some (.int .i32 y) := k1
      go_wp2_with fail
      refine (HB1.out nq).mono ?_
      rintro e w' ⟨rfl, rfl⟩
      go_wp2_with fail
      go_roundg (m - (i + 1))
      case measure => omega
      case rel => exact ⟨i + 1, by go_num, by omega, rfl, grown_trans hG (grown_drewN _ _)⟩
    · have hli : ¬ (i : Int) < (m : Int) := by omega
      go_wp2_with fail
      go_ret
      exact ⟨rfl, hG⟩

end Go.Proofs.YtachmkhbbbmioaaGreat

namespace Go.Proofs.YtachmkhbbbmioaaGreat
open Go.RowKit Go.Shelf

theorem NAt.vlv {base nb : Nat} {N : NS} {w : World} (h : NAt base nb N w) (h1 : 1 ≤ N.cps.length) : ∃ gl cl, N.vl = .slice (some ⟨gl, 0, none⟩) N.cps.length cl := by
  obtain ⟨x, hx⟩ : ∃ x, N.cps[0]? = some x := ⟨N.cps[0], by simp⟩
  obtain ⟨g, c, cur, hv, -, -, -⟩ := h.l.cell (i := 0) (ptrRow_at hx)
  rw [ptrRow_len] at hv
  exact ⟨g, c, hv⟩

theorem NAt.ptrs {base nb : Nat} {N : NS} {w : World} (h : NAt base nb N w) {gl n cl : Nat} (hv : N.vl = .slice (some ⟨gl, 0, none⟩) n cl) : w.cell? ⟨nb, 0, none⟩ = some (.slice (some ⟨gl, 0, none⟩) n cl) ∧ ∀ (i : Nat) (x : Cq), N.cps[i]? = some x → w.cell? ⟨gl, i, none⟩ = some x.ptr := by
  refine ⟨by rw [← hv]; exact cell_blk h.cp 0, fun i x hx => ?_⟩
  obtain ⟨g, c, cur, hv', -, hb, hc⟩ := h.l.cell (i := i) (ptrRow_at hx)
  rw [hv] at hv'
  cases hv'
  exact (cell_blk hb _).trans (by simpa using hc 0 _ rfl)

/-- Other runes, other strings. -/
theorem strT_ne {a b : List Int} (ha : ∀ r ∈ a, Run r) (hb : ∀ r ∈ b, Run r) : (str (txtR a) = str (txtR b)) ↔ a = b := by
  constructor
  · intro e
    simp only [Value.string.injEq, ByteArray.mk.injEq] at e
    exact txtR_inj ha hb (by simpa using congrArg Array.toList e)
  · intro e; rw [e]

set_option maxRecDepth 100000 in
set_option maxHeartbeats 4000000 in
theorem agreesK (base nb n : Nat) (N : NS) (w : World) (h : NI base nb N n w) (hb : base ≤ w.heap.size) (hK : N.wr.length ≤ 100) :
    Calls Tryz.prog 22 #[.pointer (some ⟨nb, 0, none⟩)] w fun e w' => e = .returned (.bool true) ∧ NI base nb N n w' ∧ Below base w w' := by
  have hn8 := h.ok.b.n8
  have hn1 := h.ok.b.n1
  obtain ⟨gl, cl, hvl0⟩ := h.at_.vlv (by rw [h.len]; exact hn1)
  rw [h.len] at hvl0
  have HVL := hide hvl0
  clear hvl0
  have HLT := hide (fun (j : Nat) (x : Cq) (hj : N.cps[j]? = some x) => (h.at_.cps j x hj).lt)
  have HI := hide h
  have hat := h.at_
  clear h
  go_enter Tryz.func22, Tryz.ntmps22
  go_wp2_with fail
  go_loopg [3, 4, 5, 6, 7, 8, 9, 10, 11, 12] n (fun gk s3 _s4 _s5 _s6 _s7 _s8 _s9 _s10 _s11 _s12 wr => ∃ (i : Nat), s3 = .int .i64 i ∧ i ≤ n ∧ gk = n - i ∧ NAt base nb N wr ∧ Below base w wr)
  case atStart => exact ⟨0, rfl, by omega, rfl, hat, Below.refl _ w⟩
  case round =>
    clear hat
    obtain ⟨i, rfl, hin, hgk, hN, hB⟩ := hrel
    have hbr : base ≤ wr.heap.size := Nat.le_trans hb hB.size
    have hH0 : w.heap.size ≤ wr.heap.size := hB.size
    obtain ⟨c0, ci⟩ := hN.ptrs HVL.out
    by_cases hlt : i < n
    · have hli : (i : Int) < (n : Int) := by omega
      obtain ⟨x, hx⟩ : ∃ x, N.cps[i]? = some x := ⟨N.cps[i]'(by rw [HI.out.len]; exact hlt), by simp⟩
      have cx := ci i x hx
      obtain ⟨hI, hxn, hxs, -⟩ := HI.out.inv hx
      have hrun := HI.out.tx_run hx hK
      have htl := HI.out.tx_len hx
      have HX := hide hx
      have HXL := hide (HLT.out i x hx)
      have HT := hide (fun w hx => qText x w hx hI)
      have HC := hide (fun w hx => qClock x w hx hI)
      have HL := hide (fun w hx => qLen x w hx hI)
      have HR := hide (fun w => runesK (tx x.S) hrun htl w)
      have HO := hide (fun w (h : NAt base nb N w) v hv => onceK base nb N w h (by omega) (tx x.S) htl (fun r hr => by have := HI.out.ok.tx_mem (i := i) hlt (r := r); rw [NS.C_at HX.out] at this; exact this hr) (by have := HI.out.ok.tx_nodup hlt; rw [NS.C_at HX.out] at this; exact this) v hv)
      obtain ⟨tl, htle⟩ : ∃ tl, (tx x.S).length = tl := ⟨_, rfl⟩
      rw [htle] at htl HL
      have HTLE := hide htle
      have HRUN := hide hrun
      have HI' := hide hI
      clear ci hx htle hrun hI hxs
      go_wp2_with fail
      refine (HT.out wr (hN.cps i x HX.out)).mono ?_
      rintro e w1 ⟨rfl, hx1, hF1⟩
      obtain ⟨hN1, hB1⟩ := hN.same HX.out hbr hx1 hF1
      go_wp2_with fail
      refine (HR.out w1).mono ?_
      rintro e w2 ⟨v1, rfl, hv1, hg1, g2⟩
      have hN2 := hN1.grown g2
      have hB2 : Below base wr w2 := hB1.grown g2 (Nat.le_trans hbr hB1.size) (by simp)
      have hg1' : ∀ g, v1.ownBlock = some g → w.heap.size ≤ g := fun g hg => Nat.le_trans (Nat.le_trans hH0 hF1.size) (hg1 g hg)
      obtain ⟨c02, ci2⟩ := hN2.ptrs HVL.out
      have cx2 := ci2 i x HX.out
      clear ci2 c0 cx hN1 hN
      go_wp2_with fail
      refine (HC.out w2 (hN2.cps i x HX.out)).mono ?_
      rintro e w3 ⟨v2, rfl, hv2, hg2, hx3, hF3⟩
      obtain ⟨hN3, hB3⟩ := hN2.same HX.out (Nat.le_trans hbr hB2.size) hx3 hF3
      have hB3' := hB2.trans hB3
      have hg2' : ∀ g, v2.ownBlock = some g → w.heap.size ≤ g := fun g hg => Nat.le_trans (Nat.le_trans hH0 hB2.size) (hg2 g hg)
      have hv1b := hv1.call HXL.out hg1' hF3
      obtain ⟨c03, ci3⟩ := hN3.ptrs HVL.out
      have cx3 := ci3 i x HX.out
      clear ci3 c02 cx2 hN2 hv1
      go_wp2_with fail
      refine (HL.out w3 (hN3.cps i x HX.out)).mono ?_
      rintro e w4 ⟨rfl, hx4, hF4⟩
      obtain ⟨hN4, hB4⟩ := hN3.same HX.out (Nat.le_trans hbr hB3'.size) hx4 hF4
      have hB4' := hB3'.trans hB4
      have hv1c := hv1b.call HXL.out hg1' hF4
      have hv2c := hv2.call HXL.out hg2' hF4
      clear c03 cx3 hN3 hv1b hv2
      have HO4 := hide (HO.out w4 hN4 v1 hv1c)
      go_wp2_with fail
      refine HO4.out.mono ?_
      rintro e w5 ⟨rfl, g5⟩
      have hN5 := hN4.grown g5
      have hB5 : Below base wr w5 := hB4'.grown g5 (Nat.le_trans hbr hB4'.size) (by simp)
      have hv1d := hv1c.grown g5
      have hv2d := hv2c.grown g5
      obtain ⟨a1, c1, hv1e, -⟩ := hv1d.value
      rw [runeRow_len, HTLE.out] at hv1e
      obtain ⟨a2, c2, hv2e, -⟩ := hv2d.value
      rw [ckRow_len, hxn] at hv2e
      subst hv1e hv2e
      obtain ⟨c05, -⟩ := hN5.ptrs HVL.out
      have hn1' : ((tl : Int) != (tl : Int)) = false := by simp
      have hn2' : ((n : Int) != (n : Int)) = false := by simp
      have hB5w := hB.trans hB5
      clear hN4 hv1c hv2c HO HO4 HC HL HR HT hB1 hB2 hB3 hB3' hB4 hB4' hF1 hF3 hF4 hx1 hx3 hx4 g2 g5 hg1 hg2 hB5 hB hH0 hbr
      go_wp2_with fail
      clear c05
      go_loopg [9, 10, 11, 12] i (fun gk s9 _s10 _s11 _s12 wr => ∃ (k : Nat), s9 = .int .i64 k ∧ k ≤ i ∧ gk = i - k ∧ NAt base nb N wr ∧ Below base w wr ∧ RowAt 21 1 (.slice a1 tl c1) (runeRow (tx x.S)) wr ∧ RowAt 3 1 (.slice a2 n c2) (ckRow x.S) wr)
      case atStart => exact ⟨0, rfl, by omega, rfl, hN5, hB5w, hv1d, hv2d⟩
      case round =>
        clear hN5 hB5w hv1d hv2d
        obtain ⟨k, rfl, hki, hgk2, hNq, hBq, hr1, hr2⟩ := hrel
        have hbq : base ≤ wr.heap.size := Nat.le_trans hb hBq.size
        have hHq : w.heap.size ≤ wr.heap.size := hBq.size
        by_cases hkl : k < i
        · have hkli : (k : Int) < (i : Int) := by omega
          obtain ⟨y, hy⟩ : ∃ y, N.cps[k]? = some y := ⟨N.cps[k]'(by rw [HI.out.len]; omega), by simp⟩
          obtain ⟨c0, ci⟩ := hNq.ptrs HVL.out
          have cy := ci k y hy
          obtain ⟨hIy, hyn, -, hkn⟩ := HI.out.inv hy
          have hruny := HI.out.tx_run hy hK
          have htly := HI.out.tx_len hy
          have HY := hide hy
          have HYL := hide (HLT.out k y hy)
          have HT := hide (fun w hx => qText y w hx hIy)
          have HC := hide (fun w hx => qClock y w hx hIy)
          have HR := hide (fun w => runesK (tx y.S) hruny htly w)
          have hdup := HI.out.ok.tx_nodup hkn
          have hcom := HI.out.ok.common hlt hkn
          have hsame := HI.out.ok.same hlt hkn
          rw [NS.C_at HY.out] at hdup hcom hsame
          rw [NS.C_at HX.out] at hcom hsame
          have HA := hide (fun w v u hv hu => alikeK (tx x.S) (tx y.S) (HTLE.out ▸ htl) htly hdup (by rw [hcom]; exact List.filter_sublist) v u w hv hu)
          have HS := hide (fun v u w hv hu => sameIntsK x.S y.S HI'.out.good.n8 (hyn.trans hxn.symm) v u w hv hu)
          have HSM := hide (fun hh => (strT_ne HRUN.out hruny).2 (hsame hh))
          clear ci hy hruny htly hIy hdup hcom hsame
          go_wp2_with fail
          refine (HT.out wr (hNq.cps k y HY.out)).mono ?_
          rintro e w1 ⟨rfl, hx1, hF1⟩
          obtain ⟨hN1, hB1⟩ := hNq.same HY.out hbq hx1 hF1
          have hr1a := hr1.call HYL.out hg1' hF1
          have hr2a := hr2.call HYL.out hg2' hF1
          go_wp2_with fail
          refine (HR.out w1).mono ?_
          rintro e w2 ⟨u1, rfl, hu1, -, g2⟩
          have hN2 := hN1.grown g2
          have hB2 : Below base wr w2 := hB1.grown g2 (Nat.le_trans hbq hB1.size) (by simp)
          have hr1b := hr1a.grown g2
          have hr2b := hr2a.grown g2
          clear hN1 hB1 hr1a hr2a hr1 hr2 c0 cy hNq
          have HA2 := hide (HA.out w2 _ _ hr1b hu1)
          go_wp2_with fail
          refine HA2.out.mono ?_
          rintro e w3 ⟨rfl, rfl⟩
          obtain ⟨c02, ci2⟩ := hN2.ptrs HVL.out
          have cy2 := ci2 k y HY.out
          clear ci2
          go_wp2_with fail
          refine (HC.out w3 (hN2.cps k y HY.out)).mono ?_
          rintro e w4 ⟨u2, rfl, hu2, -, hx4, hF4⟩
          obtain ⟨hN4, hB4⟩ := hN2.same HY.out (Nat.le_trans hbq hB2.size) hx4 hF4
          have hr1c := hr1b.call HYL.out hg1' hF4
          have hr2c := hr2b.call HYL.out hg2' hF4
          have hB4' := hB2.trans hB4
          clear hN2 hr1b hr2b c02 cy2
          have HS4 := hide (HS.out _ _ w4 hr2c hu2)
          go_wp2_with fail
          refine HS4.out.mono ?_
          rintro e w5 ⟨sm, rfl, hsm, g5⟩
          have hN5 := hN4.grown g5
          have hB5 : Below base w w5 := hBq.trans (hB4'.grown g5 (Nat.le_trans hbq hB4'.size) (by simp))
          have hr1d := hr1c.grown g5
          have hr2d := hr2c.grown g5
          clear hN4 hr1c hr2c hB4 hB4' hB2 hF1 hF4 g2 g5 hx1 hx4 HA HA2 HS HS4 HT HC HR hu1 hu2 hBq
          cases sm with
          | false =>
            clear hsm HSM
            go_wp2_with fail
            go_roundg (i - (k + 1))
            case measure => omega
            case rel => exact ⟨k + 1, by go_num, by omega, rfl, hN5, hB5, hr1d, hr2d⟩
          | true =>
            have hse : str (txtR (tx x.S)) = str (txtR (tx y.S)) := HSM.out (by rw [hxn] at hsm; exact (by simpa [hxn] using hsm))
            have hby : (⟨(txtR (tx x.S)).toArray⟩ : ByteArray) = ⟨(txtR (tx y.S)).toArray⟩ := by injection hse
            clear hsm HSM hse
            go_wp2_with fail
            go_roundg (i - (k + 1))
            case measure => omega
            case rel => exact ⟨k + 1, by go_num, by omega, rfl, hN5, hB5, hr1d, hr2d⟩
        · have hkli : ¬ (k : Int) < (i : Int) := by omega
          go_wp2_with fail
          go_roundg (n - (i + 1))
          case measure => omega
          case rel => exact ⟨i + 1, by go_num, by omega, rfl, hNq, hBq⟩
    · have hli : ¬ (i : Int) < (n : Int) := by omega
      go_wp2_with fail
      go_ret
      exact ⟨rfl, ⟨hN, HI.out.len, HI.out.ok, HI.out.air⟩, hB⟩

end Go.Proofs.YtachmkhbbbmioaaGreat

namespace Go.Proofs.YtachmkhbbbmioaaGreat
open Go.RowKit Go.Shelf

/-- What a Handle leaves of the net: one copy alone may know of more. -/
structure Handed' (N N' : NS) : Prop where
  vl : N'.vl = N.vl
  va : N'.va = N.va
  vw : N'.vw = N.vw
  vd : N'.vd = N.vd
  air : N'.air = N.air
  wr : N'.wr = N.wr
  de : N'.de = N.de
  cps : N'.cps.length = N.cps.length
  own : ∀ (i : Nat) (y : Cq), N.cps[i]? = some y → ∃ S, N'.cps[i]? = some { y with S := S }

theorem Handed'.refl (N : NS) : Handed' N N := ⟨rfl, rfl, rfl, rfl, rfl, rfl, rfl, rfl, fun _ y h => ⟨y.S, h⟩⟩

/-- A batch that was made is taken. -/
theorem NI.took {base nb n : Nat} {N : NS} {j : Nat} {x : Cq} {w w' : World} (h : NI base nb N n w) (hj : N.cps[j]? = some x) (hb : base ≤ w.heap.size) {l : List OpR} (hl : ∀ y ∈ l, Gm n N.C y) (hx : Cq.At { x with S := takesAll x.S l } w') (hF : Fr x.own w w') :
    NI base nb { N with cps := N.cps.set j { x with S := takesAll x.S l } } n w' ∧ Handed' N { N with cps := N.cps.set j { x with S := takesAll x.S l } } ∧ (∀ z, Gm n (NS.C { N with cps := N.cps.set j { x with S := takesAll x.S l } }) z ↔ Gm n N.C z) ∧ Below base w w' := by
  obtain ⟨-, -, -, hjn⟩ := h.inv hj
  obtain ⟨hN, hB⟩ := h.at_.turn hj hb hx hF
  have hC := NS.C_set hj (takesAll x.S l)
  obtain ⟨g1, h1, -, -⟩ := h.ok.takes hjn hl
  rw [NS.C_at hj] at g1 h1
  refine ⟨⟨hN, by simp [h.len], ?_, fun s hs => ?_⟩, ⟨rfl, rfl, rfl, rfl, rfl, rfl, rfl, by simp, fun i y hi => ?_⟩, fun z => by rw [hC]; exact g1 z, hB⟩
  · show NetOk n (NS.C { N with cps := N.cps.set j { x with S := takesAll x.S l } }) N.wr N.de
    rw [hC]; exact h1
  · rw [hC]; exact (h.air s hs).mono (fun z hz => (g1 z).2 hz)
  · by_cases q : j = i
    · subst q
      rw [hj] at hi
      cases hi
      refine ⟨takesAll x.S l, ?_⟩
      have := (List.getElem?_eq_some_iff.1 hj).1
      simp [this]
    · exact ⟨y.S, by simp [q, hi]⟩

/-- Handle of a datagram of the copies themselves. -/
theorem handK (base nb n : Nat) (N : NS) (j : Nat) (x : Cq) (w : World) (h : NI base nb N n w) (hj : N.cps[j]? = some x) (hb : base ≤ w.heap.size) (s : List UInt8) (hs : DgOk n (Gm n N.C) s) :
    Calls Tryz.prog 31 #[x.ptr, str s] w fun e w' => ∃ v, e = .returned (.tuple #[v, .int .i64 0]) ∧ ∃ AN N', RowAt 9 1 v (strRow AN) w' ∧ (∀ g, v.ownBlock = some g → w.heap.size ≤ g) ∧ AN.length ≤ 1000 ∧ NI base nb N' n w' ∧ Handed' N N' ∧ (∀ t ∈ AN, DgOk n (Gm n N'.C) t) ∧ (∀ z, Gm n N.C z → Gm n N'.C z) ∧ Fr x.own w w' ∧ Below base w w' := by
  obtain ⟨hI, hxn, hxs, hjn⟩ := h.inv hj
  have hx := h.at_.cps j x hj
  rcases hs with ⟨d, hd, rfl⟩ | ⟨l, hl, hG, rfl, h120⟩
  · obtain ⟨s, q⟩ := d
    have hq : ∀ i, i < x.S.n → 0 ≤ q i ∧ q i ≤ 100 := by rw [hxn]; exact hd.2.1
    have := qHandDig x s hd.1.1 (by rw [hxn]; exact hd.1.2) q hq w hx hI
    rw [hxn] at this
    refine this.mono ?_
    rintro e w' ⟨v, rfl, hR, hO, hx', hF⟩
    obtain ⟨hN, hB⟩ := h.at_.same hj hb hx' hF
    have hal := answers_len hI.good hI.ops q hq
    rw [hxn] at hal
    have hdg := h.ok.ans_dg hjn q
    rw [NS.C_at hj] at hdg
    exact ⟨v, rfl, _, N, hR, hO, hal, ⟨hN, h.len, h.ok, h.air⟩, Handed'.refl N, hdg, fun _ hz => hz, hF, hB⟩
  · have := qHandBat x l (by rw [hxn]; exact hl) (by rw [hxn]; exact h120) w hx hI
    rw [hxn] at this
    refine this.mono ?_
    rintro e w' ⟨rfl, hx', hF⟩
    obtain ⟨h1, h2, h3, hB⟩ := h.took hj hb hG hx' hF
    exact ⟨_, rfl, [], _, strNil _, (by simp [Value.ownBlock]), by simp, h1, h2, by simp, fun z hz => (h3 z).2 hz, hF, hB⟩

/-- The air is another. -/
theorem NI.aired {base nb n : Nat} {N : NS} {va' : Value} {air' : List (List UInt8)} {w w' : World} (h : NI base nb N n w) (hb : base ≤ w.heap.size)
    (hc : w'.heap[nb]? = some (netCells N.vl va' N.vw N.vd)) (hrow : RowAt 9 1 va' (strRow air') w') (hF : Fr (nb :: N.va.ownBlock.toList) w w') (h2 : ∀ k, va'.ownBlock = some k → N.va.ownBlock = some k ∨ w.heap.size ≤ k) (hair : ∀ s ∈ air', DgOk n (Gm n N.C) s) : NI base nb { N with va := va', air := air' } n w' ∧ Below base w w' := by
  obtain ⟨h1, hB⟩ := h.at_.aired hb hc hrow hF h2
  exact ⟨⟨h1, h.len, h.ok, hair⟩, hB⟩

theorem NI.grown {base nb n : Nat} {N : NS} {w w' : World} (h : NI base nb N n w) (g : w.grownBy w' none) : NI base nb N n w' := ⟨h.at_.grown g, h.len, h.ok, h.air⟩

set_option maxRecDepth 100000 in
set_option maxHeartbeats 8000000 in
theorem actK (base nb n : Nat) (N : NS) (kd C A B : Int) (w : World) (h0 : NI base nb N n w) (hb0 : base ≤ w.heap.size) (hK : N.wr.length + N.de.length < 90) (hair : N.air.length ≤ 1000000)
    (hk1 : -9223372036854775808 ≤ kd) (hk2 : kd ≤ 9223372036854775807) (hC1 : -9223372036854775808 ≤ C) (hC2 : C ≤ 9223372036854775807) (hA1 : -9223372036854775808 ≤ A) (hA2 : A ≤ 9223372036854775807) (hB1 : -9223372036854775808 ≤ B) (hB2' : B ≤ 9223372036854775807) :
    Calls Tryz.prog 21 #[.pointer (some ⟨nb, 0, none⟩), .agg #[.int .i64 kd, .int .i64 C, .int .i64 A, .int .i64 B]] w fun e w' => e = .returned (.bool true) ∧ ∃ N', NI base nb N' n w' ∧ NextN N N' ∧ Below base w w' := by
  have hn8 := h0.ok.b.n8
  have hn1 := h0.ok.b.n1
  have g1 : w.grownBy (w.alloc (.cells #[.int .i64 kd, .int .i64 C, .int .i64 A, .int .i64 B] 53)) none := grown_alloc (grown_refl _) _
  have k1 : (w.alloc (.cells #[.int .i64 kd, .int .i64 C, .int .i64 A, .int .i64 B] 53)).heap[w.heap.size]? = some (.cells #[.int .i64 kd, .int .i64 C, .int .i64 A, .int .i64 B] 53) := by
    rw [heap_alloc_at]; simp
  go_enter Tryz.func21, Tryz.ntmps21
  go_upto_region 1 with fail
  generalize (w.alloc (.cells #[.int .i64 kd, .int .i64 C, .int .i64 A, .int .i64 B] 53)) = w1 at g1 k1 ⊢
  have h := h0.grown g1
  obtain ⟨b1, hb1e⟩ : ∃ b1, w.heap.size = b1 := ⟨_, rfl⟩
  rw [hb1e] at k1 ⊢
  obtain ⟨i, hi⟩ : ∃ i, pkK C n = i := ⟨_, rfl⟩
  have hil : i < n := hi ▸ pkK_lt C (by omega)
  have hPk := fun w => pickK C n (by omega) (by omega) hC1 hC2 w
  rw [hi] at hPk
  clear hi
  obtain ⟨x, hx⟩ : ∃ x, N.cps[i]? = some x := ⟨N.cps[i]'(by rw [h0.len]; exact hil), by simp⟩
  obtain ⟨gl, cl, hvl⟩ := h.at_.vlv (by rw [h.len]; exact hn1)
  rw [h.len] at hvl
  obtain ⟨c0, ci⟩ := h.at_.ptrs hvl
  have t0 := ci i x hx
  have a1 : w1.cell? ⟨b1, 1, none⟩ = some (.int .i64 C) := cell_blk k1 1
  have hli : (i : Int) < (n : Int) := by omega
  have HX := hide hx
  have HVL := hide hvl
  clear hx ci hvl
  go_cut [5] (fun s5 wx => s5 = x.ptr ∧ w1.grownBy wx none)
  case first =>
    go_region_held3 (fun w' => w'.cell? ⟨nb, 0, none⟩ = some (.slice (some ⟨gl, 0, none⟩) n cl) ∧ w'.cell? ⟨b1, 1, none⟩ = some (.int .i64 C) ∧ w'.cell? ⟨gl, i, none⟩ = some x.ptr) (go_keep)
      (first | (go_at_call 20; refine (hPk _).mono ?_; rintro e w' ⟨rfl, hw⟩; rw [hw]; clear hw w'))
    all_goals
      go_wp2_with fail
      go_meet
      exact ⟨rfl, grown_drew (grown_refl _)⟩
  case rest =>
  obtain ⟨rfl, g5⟩ := hcut
  have h2 := h.grown g5
  have k2 := (g5.block _ (lt_of_heap k1) (by simp)).trans k1
  have g2 := grown_trans g1 g5
  have hb2 : base ≤ wc.heap.size := Nat.le_trans hb0 g2.size
  have hB2 : Below base w wc := (Below.refl _ w).grown g2 hb0 (by simp)
  have hb1n : b1 < wc.heap.size := lt_of_heap k2
  have HOWN : Hid (∀ (j : Nat) (y : Cq), N.cps[j]? = some y → b1 ∉ y.own) := hide (fun j y hj q => by have := (h0.at_.cps j y hj).lt b1 q; omega)
  have HNB : Hid (nb < b1 ∧ ∀ g, N.va.ownBlock = some g → g < b1) := hide ⟨by rw [← hb1e]; exact lt_of_heap h0.at_.cp, fun g hg => by rw [← hb1e]; exact h0.at_.ar.lt hg⟩
  clear t0 a1 c0 hPk h h0 g1 g5 g2 k1 hli hb1e
  have a0 : wc.cell? ⟨b1, 0, none⟩ = some (.int .i64 kd) := cell_blk k2 0
  have a2 : wc.cell? ⟨b1, 2, none⟩ = some (.int .i64 A) := cell_blk k2 2
  have a3 : wc.cell? ⟨b1, 3, none⟩ = some (.int .i64 B) := cell_blk k2 3
  have HPK := hide (fun w => pickK kd 8 (by omega) (by omega) hk1 hk2 w)
  have hkl := pkK_lt kd (n := 8) (by omega)
  generalize pkK kd 8 = kk at HPK hkl
  have e8 : ((8 : Nat) : Int) = 8 := rfl
  rw [e8] at HPK
  go_wp2_with fail
  refine (HPK.out _).mono ?_
  rintro e w3 ⟨rfl, rfl⟩
  have hH2 := hide h2
  obtain ⟨hI, hxn, hxs, -⟩ := h2.inv HX.out
  rcases (show kk < 2 ∨ kk = 2 ∨ kk = 3 ∨ 4 ≤ kk by omega) with q | q | q | q
  · have HW := hide (insertsK base nb n N i x w3 h2 HX.out hb2 hK A hA1 hA2)
    have q' : (kk : Int) < 2 := by omega
    clear h2
    go_wp2_with fail
    refine HW.out.mono ?_
    rintro e w4 ⟨rfl, N', h4, hn4, hB4⟩
    go_wp2_with fail
    go_ret
    exact ⟨rfl, N', h4, hn4, hB2.trans hB4⟩
  · have HW := hide (deletesK base nb n N i x w3 h2 HX.out hb2 hK A hA1 hA2)
    subst q
    clear h2
    go_wp2_with fail
    refine HW.out.mono ?_
    rintro e w4 ⟨rfl, N', h4, hn4, hB4⟩
    go_wp2_with fail
    go_ret
    exact ⟨rfl, N', h4, hn4, hB2.trans hB4⟩
  · subst q
    have HT := hide (qTick x w3 (h2.at_.cps i x HX.out) hI)
    clear h2
    go_wp2_with fail
    refine HT.out.mono ?_
    rintro e w4 ⟨rfl, hx4, hF4⟩
    obtain ⟨hN4, hB4⟩ := hH2.out.at_.same HX.out hb2 hx4 hF4
    have h4 : NI base nb N n w4 := ⟨hN4, hH2.out.len, hH2.out.ok, hH2.out.air⟩
    have hdg : DgOk n (Gm n N.C) (digest x.S.n x.S.s x.S.cl) := by
      have := hH2.out.ok.dig_ok hil
      rw [NS.C_at HX.out] at this
      rw [hxn]
      exact .inl ⟨_, this, rfl⟩
    generalize digest x.S.n x.S.s x.S.cl = D at hdg ⊢
    have hDne := hdg.ne
    have hDe : D.isEmpty = false := by cases D with
      | nil => exact (hDne rfl).elim
      | cons a l => rfl
    have HDG := hide hdg
    have hb4 : base ≤ w4.heap.size := Nat.le_trans hb2 hB4.size
    obtain ⟨aa, ca, hva, -⟩ := h4.at_.ar.value
    rw [strRow_len] at hva
    obtain ⟨q, hq⟩ : ∃ q, N.air.length = q := ⟨_, rfl⟩
    rw [hq] at hva hair
    have HVA := hide hva
    have HQ := hide hq
    have c5 : w4.cell? ⟨nb, 1, none⟩ = some (.slice aa q ca) := by rw [← hva]; exact cell_blk h4.at_.cp 1
    have g6 : w4.grownBy (w4.alloc (.cells #[str D] 9)) none := grown_alloc (grown_refl _) _
    have hS6 : SrcAt (w4.alloc (.cells #[str D] 9)) (.slice (some ⟨w4.heap.size, 0, none⟩) 1 1) (strRow [D]) := src_new w4 [str D] _
    have h6 := h4.grown g6
    have hR6 : RowAt 9 1 (.slice aa q ca) (strRow N.air) (w4.alloc (.cells #[str D] 9)) := by rw [← hva]; exact h6.at_.ar
    have hw6 := h6.at_.cp
    have nww : (Value.slice aa q ca).ownBlock ≠ some nb := by rw [← hva]; exact h4.at_.ar.neBlk h4.at_.cp (by decide)
    have hwlt : nb < w4.heap.size := lt_of_heap h4.at_.cp
    have hlq : (strRow N.air).length = q := by rw [strRow_len, hq]
    clear hva hq hdg hDne
    go_upto_region 9 with fail
    go_upto_region 10 with (at_builtin; refine wpList_row Tryz.underlying26 infoStr rfl (by decide) rfl _ _ rfl (.slice aa q ca) _ rfl hR6 _ _ rfl hS6 (strRow_one _) (strRow_cell _) (by rw [hlq, strRow_len]; unfold maxLen; simp; omega) (by rw [hlq, strRow_len]; simp; omega) ?_; intro v' w7 hR7 hg7 hat; have k7 := (hg7.block _ (lt_of_heap hw6) (Ne.symm nww)).trans hw6; have c7 : w7.cell? ⟨nb, 1, none⟩ = some (.slice aa q ca) := (cell_blk k7 1).trans (congrArg some HVA.out); have f7 : w7.frozen? ⟨nb, 1, none⟩ = false := frozen_blk k7 1; obtain ⟨a', c', hv', -⟩ := hR7.value; generalize hn3 : (strRow N.air ++ strRow [D]).length = n3 at hv'; clear hn3; subst hv')
    have nwa : N.va.ownBlock = (Value.slice aa q ca).ownBlock := by rw [← HVA.out]
    obtain ⟨hM, hBM⟩ := h6.aired (va' := .slice a' n3 c') (air' := N.air ++ [D]) (w' := w7.setCell ⟨nb, 1, none⟩ (.slice a' n3 c')) (by simp; omega) ((set_blk k7).trans rfl) (by
      rw [strRow_append]
      refine hR7.kept (fun g hg => Below.heap_setCell _ _ _ _ (fun e => ?_))
      subst e
      rcases hat with hat | hat
      · exact nww (hat ▸ hg)
      · rw [hat] at hg
        simp only [Option.some.injEq, World.size_alloc] at hg
        omega) (((Fr.refl _ _).grown hg7 (fun k hk => .inl (by rw [← nwa] at hk; simp [hk]))).setCell (p := ⟨nb, 1, none⟩) (.inl (by simp)) _) (fun g hg => by
      rw [← nwa] at hat
      rcases hat with hat | hat
      · exact .inl (hat ▸ hg)
      · rw [hat] at hg; cases hg; exact .inr (Nat.le_refl _)) (fun s hs => by
      rcases List.mem_append.1 hs with hs | hs
      · exact hH2.out.air s hs
      · rw [List.mem_singleton.1 hs]; exact HDG.out)
    have hBf : Below base w (w7.setCell ⟨nb, 1, none⟩ (.slice a' n3 c')) := ((hB2.trans hB4).grown g6 hb4 (by simp)).trans hBM
    generalize (w7.setCell ⟨nb, 1, none⟩ (.slice a' n3 c')) = w8 at hM hBf ⊢
    clear hBM k7 c7 f7 hR7 hg7 hat hR6 hw6 h6 hS6 g6 c5 h4 hN4 hB4 hF4 hx4
    go_wp2_with fail
    go_ret
    exact ⟨rfl, _, hM, ⟨rfl, rfl, by simp, by simp⟩, hBf⟩
  · obtain ⟨aa, ca, hva, -⟩ := h2.at_.ar.value
    rw [strRow_len] at hva
    have q2 : ¬ (kk : Int) < 2 := by omega
    have q2' : ((kk : Int) == 2) = false := by simp; omega
    have q3' : ((kk : Int) == 3) = false := by simp; omega
    have y1 : w3.cell? ⟨nb, 1, none⟩ = some (.slice aa N.air.length ca) := by rw [← hva]; exact cell_blk h2.at_.cp 1
    by_cases hl0 : N.air.length = 0
    · rw [hl0] at y1
      clear h2 hva
      go_wp2_with fail
      go_ret
      exact ⟨rfl, N, hH2.out, NextN.refl N, hB2⟩
    have hz : ((N.air.length : Int) == 0) = false := by rw [beq_eq_false_iff_ne]; omega
    have hpos : 0 < N.air.length := by omega
    have HPk := hide (fun m : Nat => pickK A N.air.length hpos (by omega) hA1 hA2 (w3.drewN m))
    have hil2 := pkK_lt A hpos
    generalize pkK A N.air.length = ix at HPk hil2
    have hili : (ix : Int) < (N.air.length : Int) := by omega
    obtain ⟨s, hs⟩ : ∃ s, N.air[ix]? = some s := ⟨N.air[ix], by simp⟩
    have hdg := h2.air s (List.mem_of_getElem? hs)
    have hsne := hdg.ne
    have hsl := hdg.len hn8
    have hse : s.isEmpty = false := by cases s with
      | nil => exact (hsne rfl).elim
      | cons a l => rfl
    have hs0 : 0 < s.length := by cases s with
      | nil => exact (hsne rfl).elim
      | cons a l => simp
    have HDG := hide hdg
    obtain ⟨ga, ca', cur, hva', -, hba, hca⟩ := h2.at_.ar.cell (i := ix) (x := [str s]) (by simp [strRow, hs])
    rw [strRow_len, hva] at hva'
    cases hva'
    have r0 : w3.cell? ⟨ga, ix, none⟩ = some (str s) := (cell_blk hba _).trans (by simpa using hca 0 _ rfl)
    have HVA := hide hva
    have HS := hide hs
    have hKb := hide hK
    clear hca hba hva hs hl0 hdg hsne
    generalize hn : N.air.length = na at hz hpos hil2 hili y1 HPk HVA hair
    have HN := hide hn
    clear hn h2
    go_wp2_with fail
    go_quiet ((go_at_call 20; exact Calls.quiet_of_same (HPk.out _)))
    have g4 : w3.grownBy (w3.drewN nq) none := grown_drewN _ _
    generalize w3.drewN nq = w4 at g4 ⊢
    have h4 := hH2.out.grown g4
    have hb4 : base ≤ w4.heap.size := Nat.le_trans hb2 g4.size
    have hB4 : Below base w w4 := hB2.grown g4 hb2 (by simp)
    have b3 := cell_of_grown a3 g4
    have z1 := cell_of_grown y1 g4
    have z0 := cell_of_grown r0 g4
    have har : RowAt 9 1 (.slice (some ⟨ga, 0, none⟩) na ca) (strRow N.air) w4 := by rw [← HVA.out]; exact h4.at_.ar
    clear y1 r0 g4 HPk a0 a2 a3 hB2 hH2 HPK k2 hb1n
    rcases (show kk = 7 ∨ kk = 5 ∨ kk = 4 ∨ kk = 6 by omega) with rfl | rfl | rfl | rfl
    · have HSp := hide (spoiltK s hs0 (by omega) B hB1 hB2' w4)
      have HDf := hide (fun (w5 : World) (g5 : w4.grownBy w5 none) (D : List UInt8) (hD : NoFr n D) => deafK base nb n N i x w5 (h4.grown g5) HX.out (Nat.le_trans hb4 g5.size) D hD)
      clear h4 har
      go_wp2_with fail
      refine HSp.out.mono ?_
      rintro e w5 ⟨t, rfl, ⟨A', R', x1, y1, hse1, hte1, hxy⟩, g5⟩
      have HD5 := hide (HDf.out w5 g5 t (by rw [hte1]; exact turned_no (G := Gm n N.C) hxy (by rw [← hse1]; exact HDG.out)))
      clear hse1 hte1
      go_wp2_with fail
      refine HD5.out.mono ?_
      rintro e w6 ⟨rfl, h6, hB6, -⟩
      go_wp2_with fail
      go_ret
      exact ⟨rfl, N, h6, NextN.refl N, (hB4.grown g5 hb4 (by simp)).trans hB6⟩
    · clear har b3
      have HH := hide (handK base nb n N i x _ h4 HX.out hb4 s (HDG.out))
      go_wp2_with fail
      refine HH.out.mono ?_
      rintro e w5 ⟨v, rfl, AN, N5, hRv, hOv, hALN, h5, hHd, hdA, -, hF5, hB5⟩
      have hb5 : base ≤ w5.heap.size := Nat.le_trans hb4 hB5.size
      obtain ⟨aa5, ca5, hva5, -⟩ := h5.at_.ar.value
      rw [strRow_len] at hva5
      have hq5 : N5.air.length ≤ 1000000 := by rw [hHd.air]; exact (by rw [HN.out]; exact hair)
      obtain ⟨q5, hq5e⟩ : ∃ q5, N5.air.length = q5 := ⟨_, rfl⟩
      rw [hq5e] at hva5 hq5
      have c5 : w5.cell? ⟨nb, 1, none⟩ = some (.slice aa5 q5 ca5) := by rw [← hva5]; exact cell_blk h5.at_.cp 1
      have hR6 : RowAt 9 1 (.slice aa5 q5 ca5) (strRow N5.air) w5 := by rw [← hva5]; exact h5.at_.ar
      have hw6 := h5.at_.cp
      have nww : (Value.slice aa5 q5 ca5).ownBlock ≠ some nb := by rw [← hva5]; exact h5.at_.ar.neBlk h5.at_.cp (by decide)
      have hwlt : nb < w5.heap.size := lt_of_heap h5.at_.cp
      have hlq : (strRow N5.air).length = q5 := by rw [strRow_len, hq5e]
      have hlA : (strRow AN).length ≤ 1000 := by rw [strRow_len]; exact hALN
      have hSv := hRv.src
      have HV5 := hide hva5
      have HQ5 := hide hq5e
      clear hva5 hq5e
      obtain ⟨av, cv, hve, -⟩ := hRv.value
      rw [strRow_len] at hve
      obtain ⟨la, hla⟩ : ∃ la, AN.length = la := ⟨_, rfl⟩
      rw [hla] at hve hALN
      have HLA := hide hla
      subst hve
      clear hla HH
      go_upto_region 26 with fail
      go_upto_region 27 with (at_builtin; refine wpList_row Tryz.underlying26 infoStr rfl (by decide) rfl _ _ rfl (.slice aa5 q5 ca5) _ rfl hR6 _ _ rfl hSv (strRow_one _) (strRow_cell _) (by rw [hlq]; unfold maxLen; omega) (by rw [hlq]; omega) ?_; intro v' w7 hR7 hg7 hat; have k7 := (hg7.block _ (lt_of_heap hw6) (Ne.symm nww)).trans hw6; have c7 : w7.cell? ⟨nb, 1, none⟩ = some (.slice aa5 q5 ca5) := (cell_blk k7 1).trans (congrArg some HV5.out); have f7 : w7.frozen? ⟨nb, 1, none⟩ = false := frozen_blk k7 1; obtain ⟨a', c', hv', -⟩ := hR7.value; generalize hn3 : (strRow N5.air ++ strRow AN).length = n3 at hv'; clear hn3; subst hv')
      have nwa : N5.va.ownBlock = (Value.slice aa5 q5 ca5).ownBlock := by rw [← HV5.out]
      obtain ⟨hM, hBM⟩ := h5.aired (va' := .slice a' n3 c') (air' := N5.air ++ AN) (w' := w7.setCell ⟨nb, 1, none⟩ (.slice a' n3 c')) hb5 ((set_blk k7).trans rfl) (by
        rw [strRow_append]
        refine hR7.kept (fun g hg => Below.heap_setCell _ _ _ _ (fun e => ?_))
        subst e
        rcases hat with hat | hat
        · exact nww (hat ▸ hg)
        · rw [hat] at hg
          simp only [Option.some.injEq] at hg
          omega) (((Fr.refl _ _).grown hg7 (fun k hk => .inl (by rw [← nwa] at hk; simp [hk]))).setCell (p := ⟨nb, 1, none⟩) (.inl (by simp)) _) (fun g hg => by
        rw [← nwa] at hat
        rcases hat with hat | hat
        · exact .inl (hat ▸ hg)
        · rw [hat] at hg; cases hg; exact .inr (Nat.le_refl _)) (fun t ht => by
        rcases List.mem_append.1 ht with ht | ht
        · exact h5.air t ht
        · exact hdA t ht)
      have hBf : Below base w (w7.setCell ⟨nb, 1, none⟩ (.slice a' n3 c')) := ((hB4).trans hB5).trans hBM
      generalize (w7.setCell ⟨nb, 1, none⟩ (.slice a' n3 c')) = w8 at hM hBf ⊢
      clear hBM k7 c7 f7 hR7 hg7 hat hR6 hw6 h5 hSv hRv c5 hF5 hB5 hOv hdA
      go_wp2_with fail
      go_ret
      exact ⟨rfl, _, hM, ⟨hHd.vl, hHd.cps, by rw [show N5.wr = N.wr from hHd.wr, show N5.de = N.de from hHd.de]; omega, by
        have e1 := congrArg List.length hHd.air
        have e2 := HLA.out
        have e3 := HN.out
        simp only [List.length_append]
        try simp only [List.length_append, List.length_take, List.length_drop] at e1
        omega⟩, hBf⟩
    · obtain ⟨u1, hs1, hsrc1⟩ := har.lo (t := 26) (by kernel_rfl) (fun w => by kernel_rfl) ix (by rw [strRow_len, HN.out]; omega)
      obtain ⟨u2, hs2, hsrc2⟩ := har.hi (t := 26) (by kernel_rfl) (fun w => by kernel_rfl) (ix + 1) (by rw [strRow_len, HN.out]; omega)
      rw [show ((ix + 1 : Nat) : Int) = (ix : Int) + 1 by omega] at hs2
      have hwi : IntKind.i64.wrap ((ix : Int) + 1) = (ix : Int) + 1 := by rw [IntKind.wrap_i64]; omega
      have hq1 := hsrc1 w4 (fun _ _ => rfl)
      have hnil := row_nil 9 1 w4
      have hl1 : ((strRow N.air).take ix).length ≤ 1000000 := by rw [List.length_take, strRow_len]; omega
      have hl2 : ((strRow N.air).drop (ix + 1)).length ≤ 1000000 := by rw [List.length_drop, strRow_len, HN.out]; omega
      clear hsrc1
      go_upto_region 22 with (at_builtin; refine wpList_row Tryz.underlying26 infoStr rfl (by decide) rfl _ _ rfl (.slice none 0 0) [] rfl hnil u1 _ rfl hq1 (fun z hz => strRow_one _ z (List.mem_of_mem_take hz)) (fun z hz => strRow_cell _ z (List.mem_of_mem_take hz)) (by unfold maxLen; simp only [List.length_nil]; omega) (by simp only [List.length_nil]; omega) ?_; intro v1 w8 hR8 hg8 hat8)
      have hv1 : ∀ b, v1.ownBlock = some b → w4.heap.size ≤ b := by
        intro b hb
        rcases hat8 with q | q
        · rw [q] at hb; cases hb
        · rw [q] at hb; cases hb; exact Nat.le_refl _
      rw [List.nil_append] at hR8
      have K8 : ∀ k, k < w4.heap.size → w8.heap[k]? = w4.heap[k]? := fun k hk => hg8.block k hk (by simp [Value.ownBlock])
      have hs8 : w4.heap.size ≤ w8.heap.size := hg8.size
      have hF8 : Fr (nb :: N.va.ownBlock.toList) w4 w8 := (Fr.refl _ w4).grown hg8 (by simp [Value.ownBlock])
      have z18 : w8.cell? ⟨nb, 1, none⟩ = some (.slice (some ⟨ga, 0, none⟩) na ca) := (World.cell?_of_block (a := ⟨nb, 1, none⟩) (K8 nb (lt_of_heap h4.at_.cp))).trans z1
      have hq2 := hsrc2 w8 (fun g hg => K8 g (har.lt hg))
      clear hg8 hat8 hq1 hnil hs1 hsrc2
      have F10 : Hid (∀ (w10 : World), w8.grownBy w10 v1.ownBlock → (∀ k, k < w4.heap.size → w10.heap[k]? = w4.heap[k]?) ∧ w10.cell? ⟨nb, 1, none⟩ = some (.slice (some ⟨ga, 0, none⟩) na ca) ∧ w10.frozen? ⟨nb, 1, none⟩ = false) := hide (by
        intro w10 hg10
        have K10 : ∀ k, k < w4.heap.size → w10.heap[k]? = w4.heap[k]? := fun k hk => (hg10.block k (by omega) (fun q => by have := hv1 k q.symm; omega)).trans (K8 k hk)
        have hy := (K10 nb (lt_of_heap h4.at_.cp)).trans h4.at_.cp
        exact ⟨K10, (World.cell?_of_block (a := ⟨nb, 1, none⟩) (K10 nb (lt_of_heap h4.at_.cp))).trans z1, frozen_blk hy 1⟩)
      go_upto_region 23 with (at_builtin; refine wpList_row Tryz.underlying26 infoStr rfl (by decide) rfl _ _ rfl v1 _ rfl hR8 u2 _ rfl hq2 (fun z hz => strRow_one _ z (List.mem_of_mem_drop hz)) (fun z hz => strRow_cell _ z (List.mem_of_mem_drop hz)) (by unfold maxLen; omega) (by omega) ?_; intro v3 w10 hR10 hg10 hat10; obtain ⟨K10, y6, f6⟩ := F10.out w10 hg10; obtain ⟨a3', c3, hv3, -⟩ := hR10.value; generalize hn3 : ((strRow N.air).take ix ++ (strRow N.air).drop (ix + 1)).length = n3 at hv3; clear hn3; subst hv3)
      have hv3 : ∀ b, (Value.slice a3' n3 c3).ownBlock = some b → w4.heap.size ≤ b := by
        intro b hb
        rcases hat10 with q | q
        · exact hv1 b (q ▸ hb)
        · rw [q] at hb; cases hb; omega
      have k10 := (K10 nb (lt_of_heap h4.at_.cp)).trans h4.at_.cp
      have hwbn : (Value.slice a3' n3 c3).ownBlock ≠ some nb := fun q => by have := hv3 nb q; have := lt_of_heap h4.at_.cp; omega
      have eR : strRow (N.air.take ix ++ N.air.drop (ix + 1)) = (strRow N.air).take ix ++ (strRow N.air).drop (ix + 1) := by simp [strRow]
      obtain ⟨hL1, hB1'⟩ := h4.aired (w' := w10.setCell ⟨nb, 1, none⟩ (.slice a3' n3 c3)) (va' := .slice a3' n3 c3) (air' := N.air.take ix ++ N.air.drop (ix + 1)) hb4 ((set_blk k10).trans rfl)
        (by rw [eR]; exact hR10.kept (fun g hg => Below.heap_setCell _ _ _ _ (fun e => hwbn (by have e' : g = nb := e; rw [← e']; exact hg))))
        ((hF8.grown hg10 (fun k hk => .inr (by have := hv1 k hk; omega))).setCell (p := ⟨nb, 1, none⟩) (.inl (by simp)) _) (fun k hk => .inr (hv3 k hk))
        (fun t ht => h4.air t ((List.mem_append.1 ht).elim List.mem_of_mem_take List.mem_of_mem_drop))
      have hb11 : base ≤ (w10.setCell ⟨nb, 1, none⟩ (.slice a3' n3 c3)).heap.size := Nat.le_trans hb4 hB1'.size
      have hB11 : Below base w (w10.setCell ⟨nb, 1, none⟩ (.slice a3' n3 c3)) := hB4.trans hB1'
      generalize (w10.setCell ⟨nb, 1, none⟩ (.slice a3' n3 c3)) = w11 at hL1 hB1' hb11 hB11 ⊢
      clear F10 hR10 hg10 hat10 K10 y6 f6 hs2 hq2 hR8 K8 hF8 z18 k10 eR h4 har z1 z0 b3 hB1'
      have HH := hide (handK base nb n { N with va := .slice a3' n3 c3, air := N.air.take ix ++ N.air.drop (ix + 1) } i x _ hL1 HX.out hb11 s (HDG.out))
      go_wp2_with fail
      refine HH.out.mono ?_
      rintro e w5 ⟨v, rfl, AN, N5, hRv, hOv, hALN, h5, hHd, hdA, -, hF5, hB5⟩
      have hb5 : base ≤ w5.heap.size := Nat.le_trans hb11 hB5.size
      obtain ⟨aa5, ca5, hva5, -⟩ := h5.at_.ar.value
      rw [strRow_len] at hva5
      have hq5 : N5.air.length ≤ 1000000 := by rw [hHd.air]; exact (by have := HN.out; simp only [List.length_append, List.length_take, List.length_drop]; omega)
      obtain ⟨q5, hq5e⟩ : ∃ q5, N5.air.length = q5 := ⟨_, rfl⟩
      rw [hq5e] at hva5 hq5
      have c5 : w5.cell? ⟨nb, 1, none⟩ = some (.slice aa5 q5 ca5) := by rw [← hva5]; exact cell_blk h5.at_.cp 1
      have hR6 : RowAt 9 1 (.slice aa5 q5 ca5) (strRow N5.air) w5 := by rw [← hva5]; exact h5.at_.ar
      have hw6 := h5.at_.cp
      have nww : (Value.slice aa5 q5 ca5).ownBlock ≠ some nb := by rw [← hva5]; exact h5.at_.ar.neBlk h5.at_.cp (by decide)
      have hwlt : nb < w5.heap.size := lt_of_heap h5.at_.cp
      have hlq : (strRow N5.air).length = q5 := by rw [strRow_len, hq5e]
      have hlA : (strRow AN).length ≤ 1000 := by rw [strRow_len]; exact hALN
      have hSv := hRv.src
      have HV5 := hide hva5
      have HQ5 := hide hq5e
      clear hva5 hq5e
      obtain ⟨av, cv, hve, -⟩ := hRv.value
      rw [strRow_len] at hve
      obtain ⟨la, hla⟩ : ∃ la, AN.length = la := ⟨_, rfl⟩
      rw [hla] at hve hALN
      have HLA := hide hla
      subst hve
      clear hla HH
      go_upto_region 26 with fail
      go_upto_region 27 with (at_builtin; refine wpList_row Tryz.underlying26 infoStr rfl (by decide) rfl _ _ rfl (.slice aa5 q5 ca5) _ rfl hR6 _ _ rfl hSv (strRow_one _) (strRow_cell _) (by rw [hlq]; unfold maxLen; omega) (by rw [hlq]; omega) ?_; intro v' w7 hR7 hg7 hat; have k7 := (hg7.block _ (lt_of_heap hw6) (Ne.symm nww)).trans hw6; have c7 : w7.cell? ⟨nb, 1, none⟩ = some (.slice aa5 q5 ca5) := (cell_blk k7 1).trans (congrArg some HV5.out); have f7 : w7.frozen? ⟨nb, 1, none⟩ = false := frozen_blk k7 1; obtain ⟨a', c', hv', -⟩ := hR7.value; generalize hn3 : (strRow N5.air ++ strRow AN).length = n3 at hv'; clear hn3; subst hv')
      have nwa : N5.va.ownBlock = (Value.slice aa5 q5 ca5).ownBlock := by rw [← HV5.out]
      obtain ⟨hM, hBM⟩ := h5.aired (va' := .slice a' n3 c') (air' := N5.air ++ AN) (w' := w7.setCell ⟨nb, 1, none⟩ (.slice a' n3 c')) hb5 ((set_blk k7).trans rfl) (by
        rw [strRow_append]
        refine hR7.kept (fun g hg => Below.heap_setCell _ _ _ _ (fun e => ?_))
        subst e
        rcases hat with hat | hat
        · exact nww (hat ▸ hg)
        · rw [hat] at hg
          simp only [Option.some.injEq] at hg
          omega) (((Fr.refl _ _).grown hg7 (fun k hk => .inl (by rw [← nwa] at hk; simp [hk]))).setCell (p := ⟨nb, 1, none⟩) (.inl (by simp)) _) (fun g hg => by
        rw [← nwa] at hat
        rcases hat with hat | hat
        · exact .inl (hat ▸ hg)
        · rw [hat] at hg; cases hg; exact .inr (Nat.le_refl _)) (fun t ht => by
        rcases List.mem_append.1 ht with ht | ht
        · exact h5.air t ht
        · exact hdA t ht)
      have hBf : Below base w (w7.setCell ⟨nb, 1, none⟩ (.slice a' n3 c')) := ((hB11).trans hB5).trans hBM
      generalize (w7.setCell ⟨nb, 1, none⟩ (.slice a' n3 c')) = w8 at hM hBf ⊢
      clear hBM k7 c7 f7 hR7 hg7 hat hR6 hw6 h5 hSv hRv c5 hF5 hB5 hOv hdA
      go_wp2_with fail
      go_ret
      exact ⟨rfl, _, hM, ⟨hHd.vl, hHd.cps, by rw [show N5.wr = N.wr from hHd.wr, show N5.de = N.de from hHd.de]; omega, by
        have e1 := congrArg List.length hHd.air
        have e2 := HLA.out
        have e3 := HN.out
        simp only [List.length_append]
        try simp only [List.length_append, List.length_take, List.length_drop] at e1
        omega⟩, hBf⟩
    · obtain ⟨u1, hs1, hsrc1⟩ := har.lo (t := 26) (by kernel_rfl) (fun w => by kernel_rfl) ix (by rw [strRow_len, HN.out]; omega)
      obtain ⟨u2, hs2, hsrc2⟩ := har.hi (t := 26) (by kernel_rfl) (fun w => by kernel_rfl) (ix + 1) (by rw [strRow_len, HN.out]; omega)
      rw [show ((ix + 1 : Nat) : Int) = (ix : Int) + 1 by omega] at hs2
      have hwi : IntKind.i64.wrap ((ix : Int) + 1) = (ix : Int) + 1 := by rw [IntKind.wrap_i64]; omega
      have hq1 := hsrc1 w4 (fun _ _ => rfl)
      have hnil := row_nil 9 1 w4
      have hl1 : ((strRow N.air).take ix).length ≤ 1000000 := by rw [List.length_take, strRow_len]; omega
      have hl2 : ((strRow N.air).drop (ix + 1)).length ≤ 1000000 := by rw [List.length_drop, strRow_len, HN.out]; omega
      clear hsrc1
      go_upto_region 22 with (at_builtin; refine wpList_row Tryz.underlying26 infoStr rfl (by decide) rfl _ _ rfl (.slice none 0 0) [] rfl hnil u1 _ rfl hq1 (fun z hz => strRow_one _ z (List.mem_of_mem_take hz)) (fun z hz => strRow_cell _ z (List.mem_of_mem_take hz)) (by unfold maxLen; simp only [List.length_nil]; omega) (by simp only [List.length_nil]; omega) ?_; intro v1 w8 hR8 hg8 hat8)
      have hv1 : ∀ b, v1.ownBlock = some b → w4.heap.size ≤ b := by
        intro b hb
        rcases hat8 with q | q
        · rw [q] at hb; cases hb
        · rw [q] at hb; cases hb; exact Nat.le_refl _
      rw [List.nil_append] at hR8
      have K8 : ∀ k, k < w4.heap.size → w8.heap[k]? = w4.heap[k]? := fun k hk => hg8.block k hk (by simp [Value.ownBlock])
      have hs8 : w4.heap.size ≤ w8.heap.size := hg8.size
      have hF8 : Fr (nb :: N.va.ownBlock.toList) w4 w8 := (Fr.refl _ w4).grown hg8 (by simp [Value.ownBlock])
      have z18 : w8.cell? ⟨nb, 1, none⟩ = some (.slice (some ⟨ga, 0, none⟩) na ca) := (World.cell?_of_block (a := ⟨nb, 1, none⟩) (K8 nb (lt_of_heap h4.at_.cp))).trans z1
      have hq2 := hsrc2 w8 (fun g hg => K8 g (har.lt hg))
      clear hg8 hat8 hq1 hnil hs1 hsrc2
      have F10 : Hid (∀ (w10 : World), w8.grownBy w10 v1.ownBlock → (∀ k, k < w4.heap.size → w10.heap[k]? = w4.heap[k]?) ∧ w10.cell? ⟨nb, 1, none⟩ = some (.slice (some ⟨ga, 0, none⟩) na ca) ∧ w10.frozen? ⟨nb, 1, none⟩ = false) := hide (by
        intro w10 hg10
        have K10 : ∀ k, k < w4.heap.size → w10.heap[k]? = w4.heap[k]? := fun k hk => (hg10.block k (by omega) (fun q => by have := hv1 k q.symm; omega)).trans (K8 k hk)
        have hy := (K10 nb (lt_of_heap h4.at_.cp)).trans h4.at_.cp
        exact ⟨K10, (World.cell?_of_block (a := ⟨nb, 1, none⟩) (K10 nb (lt_of_heap h4.at_.cp))).trans z1, frozen_blk hy 1⟩)
      go_upto_region 23 with (at_builtin; refine wpList_row Tryz.underlying26 infoStr rfl (by decide) rfl _ _ rfl v1 _ rfl hR8 u2 _ rfl hq2 (fun z hz => strRow_one _ z (List.mem_of_mem_drop hz)) (fun z hz => strRow_cell _ z (List.mem_of_mem_drop hz)) (by unfold maxLen; omega) (by omega) ?_; intro v3 w10 hR10 hg10 hat10; obtain ⟨K10, y6, f6⟩ := F10.out w10 hg10; obtain ⟨a3', c3, hv3, -⟩ := hR10.value; generalize hn3 : ((strRow N.air).take ix ++ (strRow N.air).drop (ix + 1)).length = n3 at hv3; clear hn3; subst hv3)
      have hv3 : ∀ b, (Value.slice a3' n3 c3).ownBlock = some b → w4.heap.size ≤ b := by
        intro b hb
        rcases hat10 with q | q
        · exact hv1 b (q ▸ hb)
        · rw [q] at hb; cases hb; omega
      have k10 := (K10 nb (lt_of_heap h4.at_.cp)).trans h4.at_.cp
      have hwbn : (Value.slice a3' n3 c3).ownBlock ≠ some nb := fun q => by have := hv3 nb q; have := lt_of_heap h4.at_.cp; omega
      have eR : strRow (N.air.take ix ++ N.air.drop (ix + 1)) = (strRow N.air).take ix ++ (strRow N.air).drop (ix + 1) := by simp [strRow]
      obtain ⟨hL1, hB1'⟩ := h4.aired (w' := w10.setCell ⟨nb, 1, none⟩ (.slice a3' n3 c3)) (va' := .slice a3' n3 c3) (air' := N.air.take ix ++ N.air.drop (ix + 1)) hb4 ((set_blk k10).trans rfl)
        (by rw [eR]; exact hR10.kept (fun g hg => Below.heap_setCell _ _ _ _ (fun e => hwbn (by have e' : g = nb := e; rw [← e']; exact hg))))
        ((hF8.grown hg10 (fun k hk => .inr (by have := hv1 k hk; omega))).setCell (p := ⟨nb, 1, none⟩) (.inl (by simp)) _) (fun k hk => .inr (hv3 k hk))
        (fun t ht => h4.air t ((List.mem_append.1 ht).elim List.mem_of_mem_take List.mem_of_mem_drop))
      have hb11 : base ≤ (w10.setCell ⟨nb, 1, none⟩ (.slice a3' n3 c3)).heap.size := Nat.le_trans hb4 hB1'.size
      have hB11 : Below base w (w10.setCell ⟨nb, 1, none⟩ (.slice a3' n3 c3)) := hB4.trans hB1'
      generalize (w10.setCell ⟨nb, 1, none⟩ (.slice a3' n3 c3)) = w11 at hL1 hB1' hb11 hB11 ⊢
      clear F10 hR10 hg10 hat10 K10 y6 f6 hs2 hq2 hR8 K8 hF8 z18 k10 eR h4 har z1 z0 b3 hB1'
      go_wp2_with fail
      go_ret
      exact ⟨rfl, _, hL1, ⟨rfl, rfl, by simp, by have := HN.out; simp only [List.length_append, List.length_take, List.length_drop]; omega⟩, hB11⟩

end Go.Proofs.YtachmkhbbbmioaaGreat
