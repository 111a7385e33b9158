import Derived.Test.YtachmkhbbbmioaaGreatDAX
namespace Go.Proofs.YtachmkhbbbmioaaGreat
open Go.RowKit Go.Shelf

theorem IntsIn.kept {w w' : World} {a : Option Addr} {len : Nat} {xs : Nat → Int} (h : IntsIn w a len xs) (hs : w.heap.size ≤ w'.heap.size) (e : ∀ k, k < w.heap.size → w'.heap[k]? = w.heap[k]?) : IntsIn w' a len xs := ⟨fun i hi => by
  obtain ⟨b, off, ea, hb, hc, hr⟩ := h.cell i hi
  exact ⟨b, off, ea, Nat.lt_of_lt_of_le hb hs, (World.cell?_of_block (a := ⟨b, off + i, none⟩) (e b hb)).trans hc, hr⟩⟩

theorem setOp8 {w : World} {b : Nat} {T : TypeId} {a0 a1 a2 a3 a4 a5 a6 a7 : Value} (h : w.heap[b]? = some (.cells #[a0, a1, a2, a3, a4, a5, a6, a7] T)) {v0 v1 v2 v3 v4 v5 v6 v7 : Value} : (((((((((w.setCell ⟨b, 0, none⟩ v0).setCell ⟨b, 1, none⟩ v1).setCell ⟨b, 2, none⟩ v2).setCell ⟨b, 3, none⟩ v3).setCell ⟨b, 4, none⟩ v4).setCell ⟨b, 5, none⟩ v5).setCell ⟨b, 6, none⟩ v6).setCell ⟨b, 7, none⟩ v7)).heap[b]? = some (.cells #[v0, v1, v2, v3, v4, v5, v6, v7] T) := by
  have h0 : (w.setCell ⟨b, 0, none⟩ v0).heap[b]? = some (.cells #[v0, a1, a2, a3, a4, a5, a6, a7] T) := (set_blk h).trans rfl
  have h1 : ((w.setCell ⟨b, 0, none⟩ v0).setCell ⟨b, 1, none⟩ v1).heap[b]? = some (.cells #[v0, v1, a2, a3, a4, a5, a6, a7] T) := (set_blk h0).trans rfl
  have h2 : (((w.setCell ⟨b, 0, none⟩ v0).setCell ⟨b, 1, none⟩ v1).setCell ⟨b, 2, none⟩ v2).heap[b]? = some (.cells #[v0, v1, v2, a3, a4, a5, a6, a7] T) := (set_blk h1).trans rfl
  have h3 : ((((w.setCell ⟨b, 0, none⟩ v0).setCell ⟨b, 1, none⟩ v1).setCell ⟨b, 2, none⟩ v2).setCell ⟨b, 3, none⟩ v3).heap[b]? = some (.cells #[v0, v1, v2, v3, a4, a5, a6, a7] T) := (set_blk h2).trans rfl
  have h4 : (((((w.setCell ⟨b, 0, none⟩ v0).setCell ⟨b, 1, none⟩ v1).setCell ⟨b, 2, none⟩ v2).setCell ⟨b, 3, none⟩ v3).setCell ⟨b, 4, none⟩ v4).heap[b]? = some (.cells #[v0, v1, v2, v3, v4, a5, a6, a7] T) := (set_blk h3).trans rfl
  have h5 : ((((((w.setCell ⟨b, 0, none⟩ v0).setCell ⟨b, 1, none⟩ v1).setCell ⟨b, 2, none⟩ v2).setCell ⟨b, 3, none⟩ v3).setCell ⟨b, 4, none⟩ v4).setCell ⟨b, 5, none⟩ v5).heap[b]? = some (.cells #[v0, v1, v2, v3, v4, v5, a6, a7] T) := (set_blk h4).trans rfl
  have h6 : (((((((w.setCell ⟨b, 0, none⟩ v0).setCell ⟨b, 1, none⟩ v1).setCell ⟨b, 2, none⟩ v2).setCell ⟨b, 3, none⟩ v3).setCell ⟨b, 4, none⟩ v4).setCell ⟨b, 5, none⟩ v5).setCell ⟨b, 6, none⟩ v6).heap[b]? = some (.cells #[v0, v1, v2, v3, v4, v5, v6, a7] T) := (set_blk h5).trans rfl
  have h7 : ((((((((w.setCell ⟨b, 0, none⟩ v0).setCell ⟨b, 1, none⟩ v1).setCell ⟨b, 2, none⟩ v2).setCell ⟨b, 3, none⟩ v3).setCell ⟨b, 4, none⟩ v4).setCell ⟨b, 5, none⟩ v5).setCell ⟨b, 6, none⟩ v6).setCell ⟨b, 7, none⟩ v7).heap[b]? = some (.cells #[v0, v1, v2, v3, v4, v5, v6, v7] T) := (set_blk h6).trans rfl
  exact h7

set_option maxRecDepth 100000 in
set_option maxHeartbeats 8000000 in
theorem textL (n : Nat) (h8 : n ≤ 8) (F Bd : Int) (ac : Option Addr) (nc cc : Nat) (xs : Nat → Int) (ao : Option Addr) (lo co : Nat) (hlo : lo ≤ 200000) (hF : F ≤ 9223372036854775807) (hB1 : -9223372036854775808 ≤ Bd) (hB2 : Bd ≤ 9223372036854775807) (w : World) (hc : IntsIn w ac nc xs) (ho : OpsIn w ao lo) :
    Calls Tryz.prog 15 #[.agg #[.int .i64 F, .slice ac nc cc, .slice ao lo co, .int .i64 Bd], .int .i64 n] w fun e w' => ∃ t : List UInt8, e = .returned (str t) ∧ w.grownBy w' none := by
  go_enter Tryz.func15, Tryz.ntmps15
  go_upto_region 1 with fail
  have g1 : w.grownBy (w.alloc (.cells #[.int .i64 F, .slice ac nc cc, .slice ao lo co, .int .i64 Bd] 43)) none := grown_alloc (grown_refl _) _
  have kr : (w.alloc (.cells #[.int .i64 F, .slice ac nc cc, .slice ao lo co, .int .i64 Bd] 43)).heap[w.heap.size]? = some (.cells #[.int .i64 F, .slice ac nc cc, .slice ao lo co, .int .i64 Bd] 43) := by rw [heap_alloc_at]; simp
  generalize (w.alloc (.cells #[.int .i64 F, .slice ac nc cc, .slice ao lo co, .int .i64 Bd] 43)) = w1 at g1 kr ⊢
  generalize w.heap.size = b2 at kr ⊢
  have HO := hide (ho.grown g1)
  have r0 : w1.cell? ⟨b2, 0, none⟩ = some (.int .i64 F) := cell_blk kr 0
  have r1 : w1.cell? ⟨b2, 1, none⟩ = some (.slice ac nc cc) := cell_blk kr 1
  have hb2 : b2 ≠ w1.heap.size := Nat.ne_of_lt (lt_of_heap kr)
  have hb2' : w1.heap.size ≠ b2 := Ne.symm hb2
  have gz : w1.grownBy (w1.alloc (.cells #[.int .i64 0, .slice none 0 0, .slice none 0 0] 84)).drew none := grown_drew (grown_alloc (grown_refl _) _)
  have kz : (w1.alloc (.cells #[.int .i64 0, .slice none 0 0, .slice none 0 0] 84)).drew.heap[w1.heap.size]? = some (.cells #[.int .i64 0, .slice none 0 0, .slice none 0 0] 84) := by rw [heap_drew, heap_alloc_at]; simp
  have HL := hide (longN n h8 ac nc cc xs w1.drew (hc.grown (grown_trans g1 (grown_drew (grown_refl w1)))))
  have HM := hide (longN n h8 ac nc cc xs _ (hc.grown (grown_trans g1 gz)))
  have HC := hide (fun k (hk : k < nc) => (hc.cell k hk).choose_spec.choose_spec.2.2.2)
  clear hc ho
  go_cut [5] (fun s5 wx => ∃ b5 g5, s5 = .pointer (some ⟨b5, 0, none⟩) ∧ wx.heap[b5]? = some (.cells #[.int .i64 F, .slice (some ⟨g5, 0, none⟩) n n, .slice none 0 0] 84) ∧ RowAt 3 1 (.slice (some ⟨g5, 0, none⟩) n n) (intRow (clk n (partCk (pos xs) nc))) wx ∧ w1.grownBy wx none ∧ w1.heap.size ≤ b5)
  case first =>
    go_region_held3 (fun w' => w'.cell? ⟨b2, 0, none⟩ = some (.int .i64 F) ∧ w'.cell? ⟨b2, 1, none⟩ = some (.slice ac nc cc))
      (first | go_keep | exact ⟨ck _ _ r0, ck _ _ r1⟩)
      (first | (go_at_call 40; refine HL.out.mono ?_; rintro e w3 ⟨g5, rfl, hR5, hg5, g3⟩; have ck : ∀ (a : Addr) (x : Value), w1.cell? a = some x → w3.cell? a = some x := fun a x hx => cell_of_grown hx (grown_trans (grown_drew (grown_refl w1)) g3); have hcase : w1.grownBy w3 none := grown_trans (grown_drew (grown_refl w1)) g3) | (go_at_call 40; refine HM.out.mono ?_; rintro e w3 ⟨g5, rfl, hR5, hg5, g3⟩; have ck : ∀ (a : Addr) (x : Value), w1.cell? a = some x → w3.cell? a = some x := (fun a x hx => cell_of_grown hx (grown_trans gz g3)); have k3 := (g3.block _ (lt_of_heap kz) (by simp)).trans kz; have z0 : w3.cell? ⟨w1.heap.size, 0, none⟩ = some (.int .i64 0) := cell_blk k3 0; have z1 : w3.cell? ⟨w1.heap.size, 1, none⟩ = some (.slice none 0 0) := cell_blk k3 1; have z2 : w3.cell? ⟨w1.heap.size, 2, none⟩ = some (.slice none 0 0) := cell_blk k3 2; have f0 : w3.frozen? ⟨w1.heap.size, 0, none⟩ = false := frozen_blk k3 0; have f1 : w3.frozen? ⟨w1.heap.size, 1, none⟩ = false := frozen_blk k3 1; have f2 : w3.frozen? ⟨w1.heap.size, 2, none⟩ = false := frozen_blk k3 2; have hcase : w1.grownBy w3 none := grown_trans gz g3; have r03 := ck _ _ r0; have r13 := ck _ _ r1))
    all_goals (go_wp2_with fail; go_meet)
    · exact ⟨w3.heap.size, g5, rfl, by rw [heap_alloc_at]; simp, hR5.grown (grown_alloc (grown_refl _) _), grown_trans hcase (grown_alloc (grown_refl _) _), hcase.size⟩
    · have hne : (Value.slice (some ⟨g5, 0, none⟩) n n).ownBlock ≠ some w1.heap.size := hR5.neBlk k3 (by decide)
      refine ⟨w1.heap.size, g5, rfl, ?_, ?_, ?_, Nat.le_refl _⟩
      · exact (set_blk (set_blk (set_blk k3))).trans rfl
      · refine hR5.kept (fun g hg => ?_)
        have hg' : g ≠ w1.heap.size := fun q => hne (q ▸ hg)
        rw [Below.heap_setCell _ _ _ _ hg', Below.heap_setCell _ _ _ _ hg', Below.heap_setCell _ _ _ _ hg']
      · exact (((((Fr.refl [] w1).grown hcase (by simp)).setCell (.inr (Nat.le_refl _)) _).setCell (.inr (Nat.le_refl _)) _).setCell (.inr (Nat.le_refl _)) _).toGrown
  case rest =>
  obtain ⟨b5, g5, rfl, k5, hR5, gC, hb5⟩ := hcut
  have hb25 : b2 ≠ b5 := by have := lt_of_heap kr; omega
  have krc := (gC.block _ (lt_of_heap kr) (by simp)).trans kr
  have hwc : w1.heap.size ≤ wc.heap.size := gC.size
  clear HL HM gz kz r0 r1
  go_wp2_with fail
  go_loopg [6] lo (fun gk s6 wr => ∃ (i : Nat) (l : List OpR) (vo : Value), s6 = .int .i64 i ∧ i ≤ lo ∧ gk = lo - i ∧ wr.heap[b5]? = some (.cells #[.int .i64 F, .slice (some ⟨g5, 0, none⟩) n n, vo] 84) ∧ Hid (l.length = i ∧ ∀ x ∈ l, OpNn x) ∧ Hid (OpsRow n vo l wr) ∧ Hid (∀ g, vo.ownBlock = some g → wc.heap.size ≤ g) ∧ RowAt 3 1 (.slice (some ⟨g5, 0, none⟩) n n) (intRow (clk n (partCk (pos xs) nc))) wr ∧ Fr [b5] wc wr)
  case atStart => exact ⟨0, [], .slice none 0 0, rfl, by omega, rfl, k5, hide ⟨rfl, by simp⟩, hide ⟨[], row_nil _ _ _, rfl, by simp⟩, hide (by simp [Value.ownBlock]), hR5, Fr.refl _ _⟩
  case round =>
    clear hR5 k5
    obtain ⟨i, l, vo, rfl, hil, hgk, k5, HLn, HOp, HVo, hR5, hFr⟩ := hrel
    have kr' := hFr.blk krc (by simpa using hb25)
    have s2 : wr.cell? ⟨b2, 2, none⟩ = some (.slice ao lo co) := cell_blk kr' 2
    have K1 : ∀ k, k < w1.heap.size → wr.heap[k]? = w1.heap[k]? := fun k hk => (hFr.block k (by omega) (by simp; omega)).trans (gC.block k hk (by simp))
    by_cases hlt : i < lo
    · have hli : (i : Int) < (lo : Int) := by omega
      obtain ⟨b, off, rfl, hbw, y, va, vn, vp, ys, c0, c1, c2, c3, c4, c5, c6, c7, hI, hrg⟩ := HO.out i hlt
      have kc : ∀ (o : Nat) (v : Value), w1.cell? ⟨b, o, none⟩ = some v → wr.cell? ⟨b, o, none⟩ = some v := fun o v hv => (World.cell?_of_block (a := ⟨b, o, none⟩) (K1 b hbw)).trans hv
      have d0 := kc _ _ c0
      have d1 := kc _ _ c1
      have d2 := kc _ _ c2
      have d3 := kc _ _ c3
      have d4 := kc _ _ c4
      have d5 := kc _ _ c5
      have d6 := kc _ _ c6
      have d7 := kc _ _ c7
      clear kc c0 c1 c2 c3 c4 c5 c6 c7
      go_upto_region 6 with fail
      have g3 : wr.grownBy (wr.alloc (.cells #[.int .i64 y.o, .int .i64 y.num, .int .i64 y.c, .int .i64 y.kind, .int .i64 y.tc, .int .i64 y.tk, .int .i64 y.r, .slice va vn vp] 88)) none := grown_alloc (grown_refl _) _
      have k7 : (wr.alloc (.cells #[.int .i64 y.o, .int .i64 y.num, .int .i64 y.c, .int .i64 y.kind, .int .i64 y.tc, .int .i64 y.tk, .int .i64 y.r, .slice va vn vp] 88)).heap[wr.heap.size]? = some (.cells #[.int .i64 y.o, .int .i64 y.num, .int .i64 y.c, .int .i64 y.kind, .int .i64 y.tc, .int .i64 y.tk, .int .i64 y.r, .slice va vn vp] 88) := by rw [heap_alloc_at]; simp
      generalize (wr.alloc (.cells #[.int .i64 y.o, .int .i64 y.num, .int .i64 y.c, .int .i64 y.kind, .int .i64 y.tc, .int .i64 y.tk, .int .i64 y.r, .slice va vn vp] 88)) = w3 at g3 k7 ⊢
      obtain ⟨b7, hb7⟩ : ∃ b7, wr.heap.size = b7 := ⟨_, rfl⟩
      rw [hb7] at k7 ⊢
      have hI3 : IntsIn w3 va vn ys := hI.kept (Nat.le_trans hwc (Nat.le_trans hFr.size g3.size)) (fun k hk => (g3.block k (by have := hFr.size; omega) (by simp)).trans (K1 k hk))
      have e7 : w3.cell? ⟨b7, 7, none⟩ = some (.slice va vn vp) := cell_blk k7 7
      have HL := hide (longN n h8 va vn vp ys w3 hI3)
      clear d0 d1 d2 d3 d4 d5 d6 d7 s2
      go_upto_region 7 with (go_at_call 40; refine HL.out.mono ?_; rintro e w4 ⟨g7, rfl, hR7, hg7, g4⟩; have k74 := (g4.block _ (lt_of_heap k7) (by simp)).trans k7; have z7 : w4.cell? ⟨b7, 7, none⟩ = some (.slice va vn vp) := cell_blk k74 7; have f7 : w4.frozen? ⟨b7, 7, none⟩ = false := frozen_blk k74 7)
      have k75 : (w4.setCell ⟨b7, 7, none⟩ (.slice (some ⟨g7, 0, none⟩) n n)).heap[b7]? = some (.cells #[.int .i64 y.o, .int .i64 y.num, .int .i64 y.c, .int .i64 y.kind, .int .i64 y.tc, .int .i64 y.tk, .int .i64 y.r, .slice (some ⟨g7, 0, none⟩) n n] 88) := (set_blk k74).trans rfl
      have hF5 : Fr [b7] wr (w4.setCell ⟨b7, 7, none⟩ (.slice (some ⟨g7, 0, none⟩) n n)) := (((Fr.refl _ wr).grown g3 (by simp)).grown g4 (by simp)).setCell (.inl (by simp)) _
      have hR75 := hR7.kept (w' := w4.setCell ⟨b7, 7, none⟩ (.slice (some ⟨g7, 0, none⟩) n n)) (fun g hg => Below.heap_setCell _ _ _ _ (fun q => hR7.neBlk k74 (by decide) (by have q' : g = b7 := q; rw [← q']; exact hg)))
      generalize (w4.setCell ⟨b7, 7, none⟩ (.slice (some ⟨g7, 0, none⟩) n n)) = w5 at k75 hF5 hR75 ⊢
      clear z7 f7 k74 e7 HL hR7 g4 g3 k7 hI3
      have q0 : w5.cell? ⟨b7, 0, none⟩ = some (.int .i64 y.o) := cell_blk k75 0
      have q1 : w5.cell? ⟨b7, 1, none⟩ = some (.int .i64 y.num) := cell_blk k75 1
      have q2 : w5.cell? ⟨b7, 2, none⟩ = some (.int .i64 y.c) := cell_blk k75 2
      have q3 : w5.cell? ⟨b7, 3, none⟩ = some (.int .i64 y.kind) := cell_blk k75 3
      have q4 : w5.cell? ⟨b7, 4, none⟩ = some (.int .i64 y.tc) := cell_blk k75 4
      have q5 : w5.cell? ⟨b7, 5, none⟩ = some (.int .i64 y.tk) := cell_blk k75 5
      have q6 : w5.cell? ⟨b7, 6, none⟩ = some (.int .i64 y.r) := cell_blk k75 6
      have q7 : w5.cell? ⟨b7, 7, none⟩ = some (.slice (some ⟨g7, 0, none⟩) n n) := cell_blk k75 7
      have HPl := hide (plainL y.o y.num y.c y.kind y.tc y.tk y.r (some ⟨g7, 0, none⟩) n n w5)
      go_wp2_with fail
      refine HPl.out.mono ?_
      rintro e w6 ⟨rfl, g6⟩
      have k76 := (g6.block _ (lt_of_heap k75) (by simp)).trans k75
      have p0 : w6.cell? ⟨b7, 0, none⟩ = some (.int .i64 y.o) := cell_blk k76 0
      have p1 : w6.cell? ⟨b7, 1, none⟩ = some (.int .i64 y.num) := cell_blk k76 1
      have p2 : w6.cell? ⟨b7, 2, none⟩ = some (.int .i64 y.c) := cell_blk k76 2
      have p3 : w6.cell? ⟨b7, 3, none⟩ = some (.int .i64 y.kind) := cell_blk k76 3
      have p4 : w6.cell? ⟨b7, 4, none⟩ = some (.int .i64 y.tc) := cell_blk k76 4
      have p5 : w6.cell? ⟨b7, 5, none⟩ = some (.int .i64 y.tk) := cell_blk k76 5
      have p6 : w6.cell? ⟨b7, 6, none⟩ = some (.int .i64 y.r) := cell_blk k76 6
      have p7 : w6.cell? ⟨b7, 7, none⟩ = some (.slice (some ⟨g7, 0, none⟩) n n) := cell_blk k76 7
      have z0 : w6.frozen? ⟨b7, 0, none⟩ = false := frozen_blk k76 0
      have z1 : w6.frozen? ⟨b7, 1, none⟩ = false := frozen_blk k76 1
      have z2 : w6.frozen? ⟨b7, 2, none⟩ = false := frozen_blk k76 2
      have z3 : w6.frozen? ⟨b7, 3, none⟩ = false := frozen_blk k76 3
      have z4 : w6.frozen? ⟨b7, 4, none⟩ = false := frozen_blk k76 4
      have z5 : w6.frozen? ⟨b7, 5, none⟩ = false := frozen_blk k76 5
      have z6 : w6.frozen? ⟨b7, 6, none⟩ = false := frozen_blk k76 6
      have z7 : w6.frozen? ⟨b7, 7, none⟩ = false := frozen_blk k76 7
      go_upto_region 8 with fail
      have hF7 : Fr [b7] wr ((((((((w6.setCell ⟨b7, 0, none⟩ (.int .i64 (max y.o 0))).setCell ⟨b7, 1, none⟩ (.int .i64 (max y.num 0))).setCell ⟨b7, 2, none⟩ (.int .i64 (max y.c 0))).setCell ⟨b7, 3, none⟩ (.int .i64 (max y.kind 0))).setCell ⟨b7, 4, none⟩ (.int .i64 (max y.tc 0))).setCell ⟨b7, 5, none⟩ (.int .i64 (max y.tk 0))).setCell ⟨b7, 6, none⟩ (.int .i64 (max y.r 0))).setCell ⟨b7, 7, none⟩ (.slice (some ⟨g7, 0, none⟩) n n)) := (((((((((hF5.grown g6 (by simp)).setCell (.inl (by simp)) _).setCell (.inl (by simp)) _).setCell (.inl (by simp)) _).setCell (.inl (by simp)) _).setCell (.inl (by simp)) _).setCell (.inl (by simp)) _).setCell (.inl (by simp)) _).setCell (.inl (by simp)) _)
      have k77 : ((((((((w6.setCell ⟨b7, 0, none⟩ (.int .i64 (max y.o 0))).setCell ⟨b7, 1, none⟩ (.int .i64 (max y.num 0))).setCell ⟨b7, 2, none⟩ (.int .i64 (max y.c 0))).setCell ⟨b7, 3, none⟩ (.int .i64 (max y.kind 0))).setCell ⟨b7, 4, none⟩ (.int .i64 (max y.tc 0))).setCell ⟨b7, 5, none⟩ (.int .i64 (max y.tk 0))).setCell ⟨b7, 6, none⟩ (.int .i64 (max y.r 0))).setCell ⟨b7, 7, none⟩ (.slice (some ⟨g7, 0, none⟩) n n)).heap[b7]? = some (.cells #[.int .i64 (max y.o 0), .int .i64 (max y.num 0), .int .i64 (max y.c 0), .int .i64 (max y.kind 0), .int .i64 (max y.tc 0), .int .i64 (max y.tk 0), .int .i64 (max y.r 0), .slice (some ⟨g7, 0, none⟩) n n] 88) := by rw [setOp8 k76]
      have hR77 := (hR75.grown g6).kept (w' := ((((((((w6.setCell ⟨b7, 0, none⟩ (.int .i64 (max y.o 0))).setCell ⟨b7, 1, none⟩ (.int .i64 (max y.num 0))).setCell ⟨b7, 2, none⟩ (.int .i64 (max y.c 0))).setCell ⟨b7, 3, none⟩ (.int .i64 (max y.kind 0))).setCell ⟨b7, 4, none⟩ (.int .i64 (max y.tc 0))).setCell ⟨b7, 5, none⟩ (.int .i64 (max y.tk 0))).setCell ⟨b7, 6, none⟩ (.int .i64 (max y.r 0))).setCell ⟨b7, 7, none⟩ (.slice (some ⟨g7, 0, none⟩) n n))) (fun g hg => by
        have hn : g ≠ b7 := fun q => hR75.neBlk k75 (by decide) (by rw [← q]; exact hg)
        rw [Below.heap_setCell _ _ _ _ hn, Below.heap_setCell _ _ _ _ hn, Below.heap_setCell _ _ _ _ hn, Below.heap_setCell _ _ _ _ hn, Below.heap_setCell _ _ _ _ hn, Below.heap_setCell _ _ _ _ hn, Below.heap_setCell _ _ _ _ hn, Below.heap_setCell _ _ _ _ hn])
      generalize ((((((((w6.setCell ⟨b7, 0, none⟩ (.int .i64 (max y.o 0))).setCell ⟨b7, 1, none⟩ (.int .i64 (max y.num 0))).setCell ⟨b7, 2, none⟩ (.int .i64 (max y.c 0))).setCell ⟨b7, 3, none⟩ (.int .i64 (max y.kind 0))).setCell ⟨b7, 4, none⟩ (.int .i64 (max y.tc 0))).setCell ⟨b7, 5, none⟩ (.int .i64 (max y.tk 0))).setCell ⟨b7, 6, none⟩ (.int .i64 (max y.r 0))).setCell ⟨b7, 7, none⟩ (.slice (some ⟨g7, 0, none⟩) n n)) = w7 at hF7 k77 hR77 ⊢
      obtain ⟨rows, hRo, hRl, hRx⟩ := HOp.out
      have hbb : ∀ g, g < wr.heap.size → g ∉ [b7] := fun g hg => by simp; omega
      have hRo7 : RowAt 88 8 vo rows w7 := hRo.kept (fun g hg => hF7.block g (hRo.lt hg) (hbb g (hRo.lt hg)))
      have hRx7 : ∀ (j : Nat) (x : OpR), l[j]? = some x → ∃ vk, rows[j]? = some (opCells x vk) ∧ RowAt 3 1 vk (intRow (clk n x.q)) w7 := fun j x hj => by
        obtain ⟨vk, u1, u2⟩ := hRx j x hj
        exact ⟨vk, u1, u2.kept (fun g hg => hF7.block g (u2.lt hg) (hbb g (u2.lt hg)))⟩
      have k57 : w7.heap[b5]? = some (.cells #[.int .i64 F, .slice (some ⟨g5, 0, none⟩) n n, vo] 84) := hF7.blk k5 (hbb b5 (lt_of_heap k5))
      have hR57 := hR5.kept (w' := w7) (fun g hg => hF7.block g (hR5.lt hg) (hbb g (hR5.lt hg)))
      have hFw7 : Fr [b5] wc w7 := ⟨hF7.os.trans hFr.os, hF7.tape.trans hFr.tape, hF7.output.trans hFr.output, Nat.le_trans hFr.size hF7.size, fun k hk hn => (hF7.block k (Nat.lt_of_lt_of_le hk hFr.size) (hbb k (Nat.lt_of_lt_of_le hk hFr.size))).trans (hFr.block k hk hn)⟩
      obtain ⟨av, cv, hvo, -⟩ := hRo.value
      have hri : rows.length = i := by rw [hRl, HLn.out.1]
      rw [hri] at hvo
      subst hvo
      have y2 : w7.cell? ⟨b5, 2, none⟩ = some (.slice av i cv) := cell_blk k57 2
      have t0 : w7.cell? ⟨b7, 0, none⟩ = some (.int .i64 (max y.o 0)) := cell_blk k77 0
      have t1 : w7.cell? ⟨b7, 1, none⟩ = some (.int .i64 (max y.num 0)) := cell_blk k77 1
      have t2 : w7.cell? ⟨b7, 2, none⟩ = some (.int .i64 (max y.c 0)) := cell_blk k77 2
      have t3 : w7.cell? ⟨b7, 3, none⟩ = some (.int .i64 (max y.kind 0)) := cell_blk k77 3
      have t4 : w7.cell? ⟨b7, 4, none⟩ = some (.int .i64 (max y.tc 0)) := cell_blk k77 4
      have t5 : w7.cell? ⟨b7, 5, none⟩ = some (.int .i64 (max y.tk 0)) := cell_blk k77 5
      have t6 : w7.cell? ⟨b7, 6, none⟩ = some (.int .i64 (max y.r 0)) := cell_blk k77 6
      have t7 : w7.cell? ⟨b7, 7, none⟩ = some (.slice (some ⟨g7, 0, none⟩) n n) := cell_blk k77 7
      have hSr : SrcAt (w7.alloc (.cells #[.int .i64 (max y.o 0), .int .i64 (max y.num 0), .int .i64 (max y.c 0), .int .i64 (max y.kind 0), .int .i64 (max y.tc 0), .int .i64 (max y.tk 0), .int .i64 (max y.r 0), .slice (some ⟨g7, 0, none⟩) n n] 88)) (.slice (some ⟨w7.heap.size, 0, none⟩) 1 1) [opCells (plainOp y (partCk (pos ys) vn)) (.slice (some ⟨g7, 0, none⟩) n n)] := src_new w7 (opCells (plainOp y (partCk (pos ys) vn)) (.slice (some ⟨g7, 0, none⟩) n n)) 88
      have ga : w7.grownBy (w7.alloc (.cells #[.int .i64 (max y.o 0), .int .i64 (max y.num 0), .int .i64 (max y.c 0), .int .i64 (max y.kind 0), .int .i64 (max y.tc 0), .int .i64 (max y.tk 0), .int .i64 (max y.r 0), .slice (some ⟨g7, 0, none⟩) n n] 88)) none := grown_alloc (grown_refl _) _
      have hRa := hRo7.grown ga
      have nb5 : (Value.slice av i cv).ownBlock ≠ some b5 := hRo7.neBlk k57 (by decide)
      have F8 : Hid (∀ w8 : World, (w7.alloc (.cells #[.int .i64 (max y.o 0), .int .i64 (max y.num 0), .int .i64 (max y.c 0), .int .i64 (max y.kind 0), .int .i64 (max y.tc 0), .int .i64 (max y.tk 0), .int .i64 (max y.r 0), .slice (some ⟨g7, 0, none⟩) n n] 88)).grownBy w8 (Value.slice av i cv).ownBlock → w8.heap[b5]? = some (.cells #[.int .i64 F, .slice (some ⟨g5, 0, none⟩) n n, .slice av i cv] 84)) := hide (fun w8 hg8 => (hg8.block b5 (Nat.lt_of_lt_of_le (lt_of_heap k57) ga.size) (Ne.symm nb5)).trans ((ga.block b5 (lt_of_heap k57) (by simp)).trans k57))
      have hOn : Hid (OpNn (plainOp y (partCk (pos ys) vn))) := hide (by
        refine ⟨?_, ?_, ?_, ?_, ?_, ?_, ?_, fun k hk => ?_⟩
        · show 0 ≤ max y.o 0 ∧ max y.o 0 < _; omega
        · show 0 ≤ max y.num 0 ∧ max y.num 0 < _; omega
        · show 0 ≤ max y.c 0 ∧ max y.c 0 < _; omega
        · show 0 ≤ max y.kind 0 ∧ max y.kind 0 < _; omega
        · show 0 ≤ max y.tc 0 ∧ max y.tc 0 < _; omega
        · show 0 ≤ max y.tk 0 ∧ max y.tk 0 < _; omega
        · show 0 ≤ max y.r 0 ∧ max y.r 0 < _; omega
        · show 0 ≤ partCk (pos ys) vn k ∧ partCk (pos ys) vn k < _
          unfold partCk pos
          split
          · rename_i hkv
            obtain ⟨-, -, -, -, -, hr⟩ := hI.cell k hkv
            omega
          · omega)
      clear hbb q0 q1 q2 q3 q4 q5 q6 q7 p0 p1 p2 p3 p4 p5 p6 p7 z0 z1 z2 z3 z4 z5 z6 z7
      go_upto_region 4 with (at_builtin; refine wpList_row Tryz.underlying41 infoOp rfl (by decide) rfl _ _ rfl (.slice av i cv) _ rfl hRa _ _ rfl hSr (opCells_len _ _) (op_one _ _ _ _) (by unfold maxLen; simp; omega) (by simp; omega) ?_; intro v8 w8 hR8 hg8 hat8; have k58 := F8.out w8 hg8; have y58 : w8.cell? ⟨b5, 2, none⟩ = some (.slice av i cv) := cell_blk k58 2; have f58 : w8.frozen? ⟨b5, 2, none⟩ = false := frozen_blk k58 2; obtain ⟨a8, c8, hv8, -⟩ := hR8.value; generalize hn8 : (rows ++ [opCells (plainOp y (partCk (pos ys) vn)) (.slice (some ⟨g7, 0, none⟩) n n)]).length = n8 at hv8; clear hn8; subst hv8)
      have k5f : (w8.setCell ⟨b5, 2, none⟩ (.slice a8 n8 c8)).heap[b5]? = some (.cells #[.int .i64 F, .slice (some ⟨g5, 0, none⟩) n n, .slice a8 n8 c8] 84) := (set_blk k58).trans rfl
      have hn58 : (Value.slice a8 n8 c8).ownBlock ≠ some b5 := hR8.neBlk k58 (by decide)
      have K8 : ∀ g, g < w7.heap.size → (Value.slice av i cv).ownBlock ≠ some g → w8.heap[g]? = w7.heap[g]? := fun g hg hn => (hg8.block g (Nat.lt_of_lt_of_le hg ga.size) (Ne.symm hn)).trans (ga.block g hg (by simp))
      have kI : ∀ {vk : Value} {r : List (List Value)}, RowAt 3 1 vk r w7 → RowAt 3 1 vk r (w8.setCell ⟨b5, 2, none⟩ (.slice a8 n8 c8)) := fun {vk r} u => u.kept (fun g hg => (Below.heap_setCell _ _ _ _ (fun q => u.neBlk k57 (by decide) (by have q' : g = b5 := q; rw [← q']; exact hg))).trans (K8 g (u.lt hg) (u.ne hRo7 (by decide) hg)))
      have hOpf : OpsRow n (.slice a8 n8 c8) (l ++ [plainOp y (partCk (pos ys) vn)]) (w8.setCell ⟨b5, 2, none⟩ (.slice a8 n8 c8)) := by
        refine ⟨_, hR8.kept (fun g hg => Below.heap_setCell _ _ _ _ (fun q => hn58 (by have q' : g = b5 := q; rw [← q']; exact hg))), by simp [hRl], fun j x hj => ?_⟩
        rw [List.getElem?_append] at hj ⊢
        rw [hRl]
        split at hj
        · rename_i hjl
          obtain ⟨vk, u1, u2⟩ := hRx7 j x hj
          exact ⟨vk, by rw [if_pos hjl]; exact u1, kI u2⟩
        · rename_i hjl
          have e0 : j - l.length = 0 ∧ x = plainOp y (partCk (pos ys) vn) := by
            rcases Nat.eq_zero_or_pos (j - l.length) with e | e
            · rw [e] at hj; exact ⟨e, by simpa using hj.symm⟩
            · rw [List.getElem?_eq_none (by show 1 ≤ _; omega)] at hj; cases hj
          obtain ⟨e1, rfl⟩ := e0
          exact ⟨_, by rw [if_neg hjl, e1]; rfl, kI hR77⟩
      have hOwn : ∀ g, (Value.slice a8 n8 c8).ownBlock = some g → wc.heap.size ≤ g := fun g hg => by
        rcases hat8 with q | q
        · exact HVo.out g (q ▸ hg)
        · rw [q] at hg
          have := hFw7.size
          have hg' : (w7.alloc (.cells #[.int .i64 (max y.o 0), .int .i64 (max y.num 0), .int .i64 (max y.c 0), .int .i64 (max y.kind 0), .int .i64 (max y.tc 0), .int .i64 (max y.tk 0), .int .i64 (max y.r 0), .slice (some ⟨g7, 0, none⟩) n n] 88)).heap.size = g := by simpa using hg
          simp only [World.size_alloc] at hg'
          omega
      have hFf : Fr [b5] wc (w8.setCell ⟨b5, 2, none⟩ (.slice a8 n8 c8)) := ((hFw7.grown ga (by simp)).grown hg8 (fun k hk => .inr (HVo.out k hk))).setCell (.inl (by simp)) _
      have hR5f := kI hR57
      have hln : Hid ((l ++ [plainOp y (partCk (pos ys) vn)]).length = i + 1 ∧ ∀ x ∈ l ++ [plainOp y (partCk (pos ys) vn)], OpNn x) := hide ⟨by simp [HLn.out.1], fun x hx => by
        rcases List.mem_append.1 hx with hx | hx
        · exact HLn.out.2 x hx
        · rw [List.mem_singleton.1 hx]; exact hOn.out⟩
      go_wp2_with fail
      go_roundg (lo - (i + 1))
      case measure => omega
      case rel => exact ⟨i + 1, l ++ [plainOp y (partCk (pos ys) vn)], .slice a8 n8 c8, by go_num, by omega, rfl, k5f, hln, hide hOpf, hide hOwn, hR5f, hFf⟩
    · have hie : i = lo := by omega
      have hli : ¬ (i : Int) < (lo : Int) := by omega
      have y0 : wr.cell? ⟨b5, 0, none⟩ = some (.int .i64 F) := cell_blk k5 0
      have f0 : wr.frozen? ⟨b5, 0, none⟩ = false := frozen_blk k5 0
      have s3 : wr.cell? ⟨b2, 3, none⟩ = some (.int .i64 Bd) := cell_blk kr' 3
      have hmx : ∀ w, (Builtin.max_ #[3, 3] 3 #[.int .i64 F, .int .i64 0]).run Tryz.prog w = .ok (.int .i64 (max F 0)) w := fun w => by
        rw [run_max_int2]
        have : (if (0 : Int) > F then (0 : Int) else F) = max F 0 := by split <;> omega
        rw [this]
      obtain ⟨rows, hRo, hRl, hRx⟩ := HOp.out
      have nvo : vo.ownBlock ≠ some b5 := hRo.neBlk k5 (by decide)
      obtain ⟨av, cv, hvo, -⟩ := hRo.value
      subst hvo
      have k5f : (wr.setCell ⟨b5, 0, none⟩ (.int .i64 (max F 0))).heap[b5]? = some (.cells #[.int .i64 (max F 0), .slice (some ⟨g5, 0, none⟩) n n, .slice av rows.length cv] 84) := (set_blk k5).trans rfl
      have kI : ∀ {vk : Value} {r : List (List Value)}, RowAt 3 1 vk r wr → RowAt 3 1 vk r (wr.setCell ⟨b5, 0, none⟩ (.int .i64 (max F 0))) := fun {vk r} u => u.kept (fun g hg => Below.heap_setCell _ _ _ _ (fun q => u.neBlk k5 (by decide) (by have q' : g = b5 := q; rw [← q']; exact hg)))
      have hOpf : OpsRow n (.slice av rows.length cv) l (wr.setCell ⟨b5, 0, none⟩ (.int .i64 (max F 0))) := ⟨rows, hRo.kept (fun g hg => Below.heap_setCell _ _ _ _ (fun q => nvo (by have q' : g = b5 := q; rw [← q']; exact hg))), hRl, fun j x hj => by
        obtain ⟨vk, u1, u2⟩ := hRx j x hj
        exact ⟨vk, u1, kI u2⟩⟩
      have hR5f := kI hR5
      have hFf : Fr [] w1 (wr.setCell ⟨b5, 0, none⟩ (.int .i64 (max F 0))) := by
        have h1 : Fr [b5] w1 (wr.setCell ⟨b5, 0, none⟩ (.int .i64 (max F 0))) := (((Fr.refl _ w1).grown gC (by simp)).trans hFr).setCell (.inl (by simp)) _
        exact ⟨h1.os, h1.tape, h1.output, h1.size, fun k hk _ => h1.block k hk (by simp; omega)⟩
      have s3f : (wr.setCell ⟨b5, 0, none⟩ (.int .i64 (max F 0))).cell? ⟨b2, 3, none⟩ = some (.int .i64 Bd) := (World.cell?_of_block (a := ⟨b2, 3, none⟩) (Below.heap_setCell _ _ _ _ hb25)).trans s3
      generalize hW : (wr.setCell ⟨b5, 0, none⟩ (.int .i64 (max F 0))) = wf at k5f hOpf hR5f hFf s3f
      obtain ⟨D, HW, hD0, hD1⟩ : ∃ D : List UInt8, Hid (Calls Tryz.prog 42 #[.agg #[.int .i64 (max F 0), .slice (some ⟨g5, 0, none⟩) n n, .slice av rows.length cv]] wf fun e w' => e = .returned (str D) ∧ wf.grownBy w' none) ∧ 0 < D.length ∧ D.length ≤ 50000000 := by
        have hq : ∀ k, k < n → 0 ≤ partCk (pos xs) nc k ∧ partCk (pos xs) nc k < 9223372036854775808 := fun k _ => by
          unfold partCk pos
          split
          · rename_i hk
            have := HC.out k hk
            omega
          · omega
        by_cases hF0 : 0 < F
        · have e : max F 0 = F := by omega
          refine ⟨digest n F (partCk (pos xs) nc), hide (by rw [e]; exact writeDigN F hF0 (by omega) n h8 _ hq _ _ wf hR5f), ?_, ?_⟩
          · unfold digest; rw [seal_len]; omega
          · have h1 := vbs_len (F :: clk n (partCk (pos xs) nc)) (fun x hx => by
              rcases List.mem_cons.1 hx with rfl | hx
              · omega
              · obtain ⟨k, hk, rfl⟩ := List.mem_map.1 hx
                exact (hq k (List.mem_range.1 hk)).2)
            rw [List.length_cons, clk_len] at h1
            unfold digest
            rw [seal_len, List.length_cons]
            omega
        · have e : max F 0 = 0 := by omega
          have hll := HLn.out.1
          refine ⟨batch n l, hide (by rw [e]; exact writeBatN n h8 l (by omega) HLn.out.2 _ _ wf hOpf), ?_, ?_⟩
          · unfold batch; rw [seal_len]; omega
          · have h4 := flat_lenN h8 l HLn.out.2
            have h5 := vb_len 8 l.length (by omega)
            unfold batch
            rw [seal_len, List.length_cons, List.length_append]
            omega
      have z0 : wf.cell? ⟨b5, 0, none⟩ = some (.int .i64 (max F 0)) := cell_blk k5f 0
      have z1 : wf.cell? ⟨b5, 1, none⟩ = some (.slice (some ⟨g5, 0, none⟩) n n) := cell_blk k5f 1
      have z2 : wf.cell? ⟨b5, 2, none⟩ = some (.slice av rows.length cv) := cell_blk k5f 2
      have HP := hide (fun w => pickL Bd 8 (by omega) (by omega) hB1 hB2 w)
      have hm8 := pk_lt Bd (n := 8) (by omega)
      generalize pk Bd 8 = m at HP hm8
      clear HO HC HLn HOp HVo hRo hRx hOpf hR5f kI hRl
      generalize rows.length = rl at HW z2 k5f ⊢
      go_upto_region 10 with fail
      clear hW y0 f0 s3 hmx nvo kr' K1 s2 hR5 hFr k5
      go_wp2_with fail
      refine HW.out.mono ?_
      rintro e w9 ⟨rfl, g9⟩
      have s39 := cell_of_grown s3f g9
      go_wp2_with fail
      refine (HP.out _).mono ?_
      rintro e w10 ⟨rfl, rfl⟩
      have hGf : w.grownBy w10 none := grown_trans g1 (grown_trans hFf.toGrown g9)
      clear HW HP hFf s3f s39 g9 k5f z0 z1 z2
      by_cases hm1 : m = 1
      · have hmb : ((m : Int) == 1) = true := by simp [hm1]
        obtain ⟨c, hc⟩ : ∃ c, D[D.length - 1]? = some c := ⟨D[D.length - 1]'(by omega), by rw [List.getElem?_eq_getElem]⟩
        obtain ⟨dl, hdl⟩ : ∃ dl, D.length = dl + 1 := ⟨D.length - 1, by omega⟩
        have hwd : IntKind.i64.wrap ((D.length : Int) - 1) = (dl : Int) := by rw [IntKind.wrap_i64]; omega
        have hix : ∀ w, (Instr.index 9 (str D) (.int .i64 (dl : Int))).run Tryz.prog w = .ok (.int .u8 (c.toNat : Int)) w := fun w => sindex D dl c (by rw [← hc]; congr 1; omega) w
        have hsl := fun w => str_take D dl (by omega) w
        have hcv := fun (w : World) (a : Nat) (h : w.cell? ⟨a, 0, none⟩ = some (.int .u8 (((c.toNat : Int) + 1) % 256))) => @conv1 w a _ h (by omega) (by omega)
        have hadd := fun w => sadd (D.take dl) [UInt8.ofNat ((c.toNat + 1) % 256)] (by simp; omega) w
        have HDL := hide hdl
        clear hm1 hc hdl hD0 hD1
        go_wp2_with fail
        go_big_region
        all_goals
          go_wp2_with fail
          exact bodyPost_ret (v := str (D.take dl ++ [UInt8.ofNat ((c.toNat + 1) % 256)])) (by simp [results, Tryz.results15, go_sem]) rfl ⟨_, rfl, grown_trans hGf (by repeat (first | exact grown_refl _ | refine grown_drew ?_ | refine grown_alloc ?_ _))⟩
      · have hmb : ((m : Int) == 1) = false := by simp; omega
        go_wp2_with fail
        exact bodyPost_ret (v := str D) (by simp [results, Tryz.results15, go_sem]) rfl ⟨D, rfl, hGf⟩

end Go.Proofs.YtachmkhbbbmioaaGreat

namespace Go.Proofs.YtachmkhbbbmioaaGreat
open Go.RowKit Go.Shelf

/-- A frame of raw numbers that lies in memory. -/
def RawIn (w : World) (b o : Nat) : Prop := ∃ (F Bd : Int) (ac : Option Addr) (nc cc : Nat) (xs : Nat → Int) (ao : Option Addr) (lo co : Nat),
  w.cell? ⟨b, o, none⟩ = some (.int .i64 F) ∧ w.cell? ⟨b, o + 1, none⟩ = some (.slice ac nc cc) ∧ w.cell? ⟨b, o + 2, none⟩ = some (.slice ao lo co) ∧ w.cell? ⟨b, o + 3, none⟩ = some (.int .i64 Bd) ∧
  lo ≤ 200000 ∧ F ≤ 9223372036854775807 ∧ -9223372036854775808 ≤ Bd ∧ Bd ≤ 9223372036854775807 ∧ IntsIn w ac nc xs ∧ OpsIn w ao lo

theorem OpsIn.kept {w w' : World} {a : Option Addr} {len : Nat} (h : OpsIn w a len) (hs : w.heap.size ≤ w'.heap.size) (e : ∀ k, k < w.heap.size → w'.heap[k]? = w.heap[k]?) : OpsIn w' a len := fun i hi => by
  obtain ⟨b, off, ha, hb, y, va, vn, vp, xs, c0, c1, c2, c3, c4, c5, c6, c7, hI, hr⟩ := h i hi
  have kc : ∀ (o : Nat) (v : Value), w.cell? ⟨b, o, none⟩ = some v → w'.cell? ⟨b, o, none⟩ = some v := fun o v hv => (World.cell?_of_block (a := ⟨b, o, none⟩) (e b hb)).trans hv
  exact ⟨b, off, ha, Nat.lt_of_lt_of_le hb hs, y, va, vn, vp, xs, kc _ _ c0, kc _ _ c1, kc _ _ c2, kc _ _ c3, kc _ _ c4, kc _ _ c5, kc _ _ c6, kc _ _ c7, hI.kept hs e, hr⟩

def LS.zeroF : LS := ⟨.slice none 0 0, .slice none 0 0, .slice none 0 0, .slice none 0 0, [], [], [], []⟩

theorem WAt.initF (w : World) : WAt w.heap.size w.heap.size LS.zeroF (w.alloc (.cells #[.slice none 0 0, .slice none 0 0, .slice none 0 0, .slice none 0 0] 33)) := by
  refine ⟨by rw [heap_alloc_at]; simp [LS.zeroF], row_nil _ _ _, row_nil _ _ _, row_nil _ _ _, row_nil _ _ _, by simp [LS.zeroF], by simp [LS.zeroF], by simp [LS.zeroF], fun _ => 0, ?_, by simp [LS.zeroF], by simp [LS.zeroF], by simp [LS.zeroF]⟩
  intro k hk
  simp only [LS.own, LS.zeroF, Value.ownBlock, Option.toList_none, List.append_nil, List.mem_cons, List.not_mem_nil, or_false] at hk
  subst hk
  exact ⟨rfl, Nat.le_refl _⟩

structure FitF (L : LS) (i : Nat) : Prop where
  irs : L.irs.length ≤ i
  trs : L.trs.length ≤ i
  air : L.air.length ≤ 1000 * i

theorem FitF.next {L L' : LS} {i : Nat} (h : FitF L i) (hn : Next L L' 1000) : FitF L' (i + 1) :=
  ⟨by have := h.irs; have := hn.irs; omega, by have := h.trs; have := hn.trs; omega, by have := h.air; have := hn.air; omega⟩

end Go.Proofs.YtachmkhbbbmioaaGreat

namespace Go.Proofs.YtachmkhbbbmioaaGreat
open Go.RowKit Go.Shelf

/-- What Handle leaves of the law's own list of copies. -/
theorem list_kept {base wb : Nat} {L L' : LS} {x : Pr} {w w' : World} {g c : Nat} (h : WAt base wb L w) (hx : L.prs[0]? = some x) (hv : L.vl = .slice (some ⟨g, 0, none⟩) 1 c) (hv' : L'.vl = L.vl) (h' : WAt base wb L' w') (hK : ∀ k, k < w.heap.size → k ≠ wb → k ∉ x.own → L.vt.ownBlock ≠ some k → L.va.ownBlock ≠ some k → w'.heap[k]? = w.heap[k]?) :
    w'.cell? ⟨wb, 0, none⟩ = some (.slice (some ⟨g, 0, none⟩) 1 c) ∧ w'.heap[g]? = w.heap[g]? := by
  have ho : L.vl.ownBlock = some g := by rw [hv]; rfl
  refine ⟨by rw [← hv, ← hv']; exact cell_blk h'.cp 0, hK g (h.l.lt ho) ?_ ?_ ?_ ?_⟩
  · rintro rfl; exact h.l.neBlk h.cp (by decide) ho
  · obtain ⟨ow, o1, o2, -⟩ := h.ow
    intro q
    have h1 := (o1 g (by simp [LS.own, ho])).1
    have h2 := (o2 0 x hx g q).1
    omega
  · exact fun q => h.l.ne h.t (by decide) ho q
  · exact fun q => h.l.ne h.ar (by decide) ho q

set_option maxRecDepth 100000 in
set_option maxHeartbeats 8000000 in
theorem frames_f (c : Int) (hc1 : -9223372036854775808 ≤ c) (hc2 : c ≤ 9223372036854775807) (af : Option Addr) (lf cf : Nat) (ab : Option Addr) (lb cb : Nat) (hlen : lf + lb ≤ 1048576) (w : World)
    (hf : ∀ i, i < lf → ∃ b off, af = some ⟨b, off, none⟩ ∧ b < w.heap.size ∧ RawIn w b (off + i * 4))
    (hs : ∀ i, i < lb → ∃ b off s, ab = some ⟨b, off, none⟩ ∧ b < w.heap.size ∧ w.cell? ⟨b, off + i, none⟩ = some (.string s)) :
    Calls Tryz.prog 5 #[.int .i64 c, .slice af lf cf, .slice ab lb cb] w fun e w' => e = .returned (.bool true) ∧ Below w.heap.size w w' := by
  have hp8 := pk_lt c (n := 8) (by omega)
  have hPk := fun w => pickL c 8 (by omega) (by omega) hc1 hc2 w
  generalize hq : pk c 8 = q at hp8 hPk
  clear hq
  have hL0 := WAt.initF w
  have hB0 : Below w.heap.size w (w.alloc (.cells #[.slice none 0 0, .slice none 0 0, .slice none 0 0, .slice none 0 0] 33)) := (Below.refl _ w).grown (grown_alloc (grown_refl _) _) (Nat.le_refl _) (by simp)
  go_enter Tryz.func5, Tryz.ntmps5
  go_upto_region 3 with (go_at_call 12; refine (hPk _).mono ?_; rintro e w' ⟨rfl, hw⟩; rw [hw]; clear hw w')
  obtain ⟨n, hn⟩ : ∃ n : Nat, 1 + (q : Int) = (n : Int) := ⟨1 + q, by omega⟩
  rw [hn]
  generalize (w.alloc (.cells #[.slice none 0 0, .slice none 0 0, .slice none 0 0, .slice none 0 0] 33)) = w1 at hL0 hB0 ⊢
  have hn8 : 1 ≤ n ∧ n ≤ 8 := by omega
  clear hn hPk hp8
  obtain ⟨base, hbase⟩ : ∃ base, w.heap.size = base := ⟨_, rfl⟩
  obtain ⟨wb, hwb⟩ : ∃ wb, w.heap.size = wb := ⟨_, rfl⟩
  have hL1 : WAt base wb LS.zeroF w1 := by subst hbase hwb; exact hL0
  rw [hbase] at hB0
  rw [hwb]
  have hC : Hid (Calls Tryz.prog 13 #[.pointer (some ⟨wb, 0, none⟩), .int .i64 n, .int .i64 1, .bool true] w1 fun e w' => e = .returned (.bool true) ∧ ∃ vl' x, WAt base wb { LS.zeroF with vl := vl', prs := LS.zeroF.prs ++ [x] } w' ∧ Below base w1 w') := hide (begins_d base wb n 1 LS.zeroF w1 hL1 (by rw [← hbase]; exact hB0.size) (by omega) (by omega) (by omega) (by simp [LS.zeroF]))
  clear hL1 hL0
  go_wp2_with fail
  refine hC.out.mono ?_
  rintro e w2 ⟨rfl, vl', x, hL2, hB2⟩
  have hB3 := hB0.trans hB2
  obtain ⟨L2, hL2e⟩ : ∃ L2 : LS, { LS.zeroF with vl := vl', prs := LS.zeroF.prs ++ [x] } = L2 := ⟨_, rfl⟩
  have hP3 : L2.prs.length = 1 := by rw [← hL2e]; simp [LS.zeroF]
  have hft2 : FitF L2 0 := by rw [← hL2e]; exact ⟨by simp [LS.zeroF], by simp [LS.zeroF], by simp [LS.zeroF]⟩
  rw [hL2e] at hL2
  clear hB2 hB0 hC hL2e
  obtain ⟨x0, hx0⟩ : ∃ x0, L2.prs[0]? = some x0 := ⟨L2.prs[0], by simp⟩
  obtain ⟨gl, cl, cur, hvl, -, -, -⟩ := hL2.l.cell (i := 0) (x := twoCells x0) (by simp [hx0])
  rw [List.length_map, hP3] at hvl
  clear hx0 x0
  have c0 : w2.cell? ⟨wb, 0, none⟩ = some (.slice (some ⟨gl, 0, none⟩) 1 cl) := by rw [← hvl]; exact cell_blk hL2.cp 0
  have HV2 := hide hvl
  clear hvl
  go_wp2_with fail
  clear c0
  have HF := hide hf
  have HS := hide hs
  clear hf hs
  go_loopg [9, 10] lf (fun gk s9 s10 wr => ∃ (i : Nat) (L : LS), s9 = .bool true ∧ s10 = .int .i64 i ∧ i ≤ lf ∧ gk = lf - i ∧ L.prs.length = 1 ∧ Hid (L.vl = .slice (some ⟨gl, 0, none⟩) 1 cl) ∧ FitF L i ∧ WAt base wb L wr ∧ Below base w wr)
  case atStart => exact ⟨0, L2, rfl, rfl, by omega, rfl, hP3, HV2, hft2, hL2, hB3⟩
  case round =>
    clear hL2 hB3 hP3 HV2 hft2
    obtain ⟨i, L, rfl, rfl, hil, hgk, hpl, HV, hft, hL, hB⟩ := hrel
    have hbr : base ≤ wr.heap.size := by rw [← hbase]; exact hB.size
    have f1 := hft.irs
    have f2 := hft.trs
    have f3 := hft.air
    by_cases hlt : i < lf
    · have hli : (i : Int) < (lf : Int) := by omega
      obtain ⟨b, off, hae, hbw, F, Bd, ac, nc, cc, xs, ao, lo, co, e0, e1, e2, e3, hlo, hF1, hb1, hb2, hI, hO⟩ := HF.out i hlt
      have hbb : b < base := by rw [← hbase]; exact hbw
      have kw : ∀ k, k < w.heap.size → wr.heap[k]? = w.heap[k]? := fun k hk => hB.block k (by rw [← hbase]; exact hk)
      have kc : ∀ (o : Nat) (v : Value), w.cell? ⟨b, o, none⟩ = some v → wr.cell? ⟨b, o, none⟩ = some v := fun o v hv => (hB.cell (p := ⟨b, o, none⟩) hbb).trans hv
      have r0 := kc _ _ e0
      have r1 := kc _ _ e1
      have r2 := kc _ _ e2
      have r3 := kc _ _ e3
      have gd : wr.grownBy wr.drew none := grown_drew (grown_refl wr)
      have hI' := (hI.kept hB.size kw).grown gd
      have hO' := (hO.kept hB.size kw).grown gd
      clear e0 e1 e2 e3 kc HF kw hI hO
      subst hae
      obtain ⟨x', hx⟩ : ∃ x, L.prs[0]? = some x := ⟨L.prs[0], by simp [hpl]⟩
      have HX := hide hx
      have c0 : wr.cell? ⟨wb, 0, none⟩ = some (.slice (some ⟨gl, 0, none⟩) 1 cl) := by rw [← HV.out]; exact cell_blk hL.cp 0
      obtain ⟨gl', cl', cur, hvl, -, hbl, hcell⟩ := hL.l.cell (i := 0) (x := twoCells x') (by simp [hx])
      rw [List.length_map, hpl, HV.out] at hvl
      cases hvl
      have t0 : wr.cell? ⟨gl, 0, none⟩ = some (.pointer (some ⟨x'.cb, 0, none⟩)) := (cell_blk hbl _).trans (by simpa using hcell 0 _ rfl)
      have t1 : wr.cell? ⟨gl, 1, none⟩ = some (.pointer (some ⟨x'.yb, 0, none⟩)) := (cell_blk hbl _).trans (by simpa using hcell 1 _ rfl)
      have HT := hide (textL n hn8.2 F Bd ac nc cc xs ao lo co hlo hF1 hb1 hb2 wr.drew hI' hO')
      have HH := hide (fun (w3 : World) (g3 : wr.grownBy w3 none) (t : List UInt8) => handles_any base wb L 0 x' w3 (hL.grown g3) HX.out (Nat.le_trans hbr g3.size) (by omega) (by omega) t)
      have HLK := hide (fun (w3 w4 : World) (g3 : wr.grownBy w3 none) (L' : LS) (hv' : L'.vl = L.vl) (h' : WAt base wb L' w4) hK => list_kept (w := w3) (w' := w4) (hL.grown g3) HX.out HV.out hv' h' hK)
      clear hcell hx hbl
      go_wp2_with fail
      go_region_held3 (fun w' => w'.cell? ⟨wb, 0, none⟩ = some (.slice (some ⟨gl, 0, none⟩) 1 cl) ∧ w'.cell? ⟨gl, 0, none⟩ = some (.pointer (some ⟨x'.cb, 0, none⟩)) ∧ w'.cell? ⟨gl, 1, none⟩ = some (.pointer (some ⟨x'.yb, 0, none⟩)) ∧ w'.cell? ⟨b, off + i * 4, none⟩ = some (.int .i64 F) ∧ w'.cell? ⟨b, off + i * 4 + 1, none⟩ = some (.slice ac nc cc) ∧ w'.cell? ⟨b, off + i * 4 + 2, none⟩ = some (.slice ao lo co) ∧ w'.cell? ⟨b, off + i * 4 + 3, none⟩ = some (.int .i64 Bd))
        (first | go_keep | exact ⟨kp1, kp2 _ _ t0, kp2 _ _ t1, kp3 _ _ r0, kp3 _ _ r1, kp3 _ _ r2, kp3 _ _ r3⟩)
        (first | (go_at_call 15; refine HT.out.mono ?_; rintro e w3 ⟨t, rfl, g3⟩; have kp1 := cell_of_grown c0 (grown_trans gd g3); have kp2 : ∀ (o : Nat) (v : Value), wr.cell? ⟨gl, o, none⟩ = some v → w3.cell? ⟨gl, o, none⟩ = some v := fun o v hv => cell_of_grown hv (grown_trans gd g3); have kp3 : ∀ (o : Nat) (v : Value), wr.cell? ⟨b, o, none⟩ = some v → w3.cell? ⟨b, o, none⟩ = some v := fun o v hv => cell_of_grown hv (grown_trans gd g3)) | (go_at_call 14; refine (HH.out _ (grown_trans gd g3) t).mono ?_; rintro e w12 ⟨rfl, L', hN', hL', hB', hK'⟩; obtain ⟨kp1, kpg⟩ := HLK.out _ _ (grown_trans gd g3) L' hN'.vl hL' hK'; have kp2 : ∀ (o : Nat) (v : Value), wr.cell? ⟨gl, o, none⟩ = some v → w12.cell? ⟨gl, o, none⟩ = some v := fun o v hv => (World.cell?_of_block (a := ⟨gl, o, none⟩) kpg).trans (cell_of_grown hv (grown_trans gd g3)); have kp3 : ∀ (o : Nat) (v : Value), wr.cell? ⟨b, o, none⟩ = some v → w12.cell? ⟨b, o, none⟩ = some v := fun o v hv => (hB'.cell (p := ⟨b, o, none⟩) hbb).trans (cell_of_grown hv (grown_trans gd g3))))
      all_goals
        go_wp2_with fail
        go_roundg (lf - (i + 1))
        case measure => omega
        case rel => exact ⟨i + 1, L', rfl, by go_num, by omega, rfl, hN'.prs.trans hpl, hide (hN'.vl.trans HV.out), hft.next hN', hL', (hB.grown (grown_trans gd g3) hbr (by simp)).trans hB'⟩
    · obtain rfl : i = lf := by omega
      clear HF
      go_wp2_with fail
      go_loopg [9, 11] lb (fun gk s9 s11 wr => ∃ (j : Nat) (L : LS), s9 = .bool true ∧ s11 = .int .i64 j ∧ j ≤ lb ∧ gk = lb - j ∧ L.prs.length = 1 ∧ Hid (L.vl = .slice (some ⟨gl, 0, none⟩) 1 cl) ∧ FitF L (i + j) ∧ WAt base wb L wr ∧ Below base w wr)
      case atStart => exact ⟨0, L, rfl, rfl, by omega, rfl, hpl, HV, hft, hL, hB⟩
      case round =>
        clear hL hB hbr hgk hft f1 f2 f3 hpl HV
        obtain ⟨j, L, rfl, rfl, hjm, hgk3, hpl, HV, hft, hL, hB⟩ := hrel
        have hbr : base ≤ wr.heap.size := by rw [← hbase]; exact hB.size
        have f1 := hft.irs
        have f2 := hft.trs
        have f3 := hft.air
        by_cases hlt : j < lb
        · have hli : (j : Int) < (lb : Int) := by omega
          obtain ⟨b, off, ⟨⟨sl⟩⟩, hae, hbw, e0⟩ := HS.out j hlt
          have hbb : b < base := by rw [← hbase]; exact hbw
          have r0 : wr.cell? ⟨b, off + j, none⟩ = some (str sl) := (hB.cell (p := ⟨b, off + j, none⟩) hbb).trans e0
          clear e0 HS
          subst hae
          obtain ⟨x', hx⟩ : ∃ x, L.prs[0]? = some x := ⟨L.prs[0], by simp [hpl]⟩
          have HX := hide hx
          have gd : wr.grownBy wr.drew none := grown_drew (grown_refl wr)
          have c0 : wr.cell? ⟨wb, 0, none⟩ = some (.slice (some ⟨gl, 0, none⟩) 1 cl) := by rw [← HV.out]; exact cell_blk hL.cp 0
          obtain ⟨gl', cl', cur, hvl, -, hbl, hcell⟩ := hL.l.cell (i := 0) (x := twoCells x') (by simp [hx])
          rw [List.length_map, hpl, HV.out] at hvl
          cases hvl
          have t0 : wr.cell? ⟨gl, 0, none⟩ = some (.pointer (some ⟨x'.cb, 0, none⟩)) := (cell_blk hbl _).trans (by simpa using hcell 0 _ rfl)
          have t1 : wr.cell? ⟨gl, 1, none⟩ = some (.pointer (some ⟨x'.yb, 0, none⟩)) := (cell_blk hbl _).trans (by simpa using hcell 1 _ rfl)
          have HH := hide (handles_any base wb L 0 x' wr.drew (hL.grown gd) HX.out (Nat.le_trans hbr gd.size) (by omega) (by omega) sl)
          have HLK := hide (fun (w4 : World) (L' : LS) (hv' : L'.vl = L.vl) (h' : WAt base wb L' w4) hK => list_kept (w := wr.drew) (w' := w4) (hL.grown gd) HX.out HV.out hv' h' hK)
          clear hcell hx hbl
          go_wp2_with fail
          go_region_held3 (fun w' => w'.cell? ⟨wb, 0, none⟩ = some (.slice (some ⟨gl, 0, none⟩) 1 cl) ∧ w'.cell? ⟨gl, 0, none⟩ = some (.pointer (some ⟨x'.cb, 0, none⟩)) ∧ w'.cell? ⟨gl, 1, none⟩ = some (.pointer (some ⟨x'.yb, 0, none⟩)) ∧ w'.cell? ⟨b, off + j, none⟩ = some (str sl))
            (first | go_keep | exact ⟨kp1, kp2 _ _ t0, kp2 _ _ t1, kp3 _ _ r0⟩)
            ((go_at_call 14; refine HH.out.mono ?_; rintro e w12 ⟨rfl, L', hN', hL', hB', hK'⟩; obtain ⟨kp1, kpg⟩ := HLK.out _ L' hN'.vl hL' hK'; have kp2 : ∀ (o : Nat) (v : Value), wr.cell? ⟨gl, o, none⟩ = some v → w12.cell? ⟨gl, o, none⟩ = some v := fun o v hv => (World.cell?_of_block (a := ⟨gl, o, none⟩) kpg).trans (cell_of_grown hv gd); have kp3 : ∀ (o : Nat) (v : Value), wr.cell? ⟨b, o, none⟩ = some v → w12.cell? ⟨b, o, none⟩ = some v := fun o v hv => (hB'.cell (p := ⟨b, o, none⟩) hbb).trans (cell_of_grown hv gd)))
          all_goals
            go_wp2_with fail
            go_roundg (lb - (j + 1))
            case measure => omega
            case rel => exact ⟨j + 1, L', rfl, by go_num, by omega, rfl, hN'.prs.trans hpl, hide (hN'.vl.trans HV.out), hft.next hN', hL', (hB.grown gd hbr (by simp)).trans hB'⟩
        · obtain rfl : j = lb := by omega
          clear HS
          go_wp2_with fail
          go_loopg [9, 12] 5 (fun gk s9 s12 wr => ∃ (k : Nat) (L : LS), s9 = .bool true ∧ s12 = .int .i64 k ∧ 3 ≤ k ∧ k ≤ 8 ∧ gk = 8 - k ∧ L.prs.length = 1 ∧ Hid (L.vl = .slice (some ⟨gl, 0, none⟩) 1 cl) ∧ FitF L (i + j + (k - 3)) ∧ WAt base wb L wr ∧ Below base w wr)
          case atStart => exact ⟨3, L, rfl, rfl, by omega, by omega, rfl, hpl, HV, hft, hL, hB⟩
          case round =>
            clear hL hB hbr hft f1 f2 f3 hpl HV
            obtain ⟨k, L, rfl, rfl, hk3, hk8, hgk, hpl, HV, hft, hL, hB⟩ := hrel
            have hbr : base ≤ wr.heap.size := by rw [← hbase]; exact hB.size
            have f1 := hft.irs
            have f2 := hft.trs
            have f3 := hft.air
            by_cases hk7 : k ≤ 7
            · have hk7i : (k : Int) ≤ 7 := by omega
              obtain ⟨x', hx⟩ : ∃ x, L.prs[0]? = some x := ⟨L.prs[0], by simp [hpl]⟩
              have c0 : wr.cell? ⟨wb, 0, none⟩ = some (.slice (some ⟨gl, 0, none⟩) 1 cl) := by rw [← HV.out]; exact cell_blk hL.cp 0
              obtain ⟨gl', cl', cur, hvl, -, hbl, hcell⟩ := hL.l.cell (i := 0) (x := twoCells x') (by simp [hx])
              rw [List.length_map, hpl, HV.out] at hvl
              cases hvl
              have t0 : wr.cell? ⟨gl, 0, none⟩ = some (.pointer (some ⟨x'.cb, 0, none⟩)) := (cell_blk hbl _).trans (by simpa using hcell 0 _ rfl)
              have t1 : wr.cell? ⟨gl, 1, none⟩ = some (.pointer (some ⟨x'.yb, 0, none⟩)) := (cell_blk hbl _).trans (by simpa using hcell 1 _ rfl)
              have HA := hide (asks_d base wb L 0 x' wr hL hx hbr (by omega) (by omega) k (by omega))
              clear hcell hx hbl
              go_wp2_with fail
              refine HA.out.mono ?_
              rintro e w3 ⟨rfl, L', hN, hpr, hL3, hB3⟩
              have hft3 := hft.next (⟨hN.vl, hN.prs, hN.irs, hN.trs, by have := hN.air; omega, hN.ne⟩ : Next L L' 1000)
              have e8 : i + j + (k - 3) + 1 = i + j + (k + 1 - 3) := by omega
              rw [e8] at hft3
              go_wp2_with fail
              go_roundg (8 - (k + 1))
              case measure => omega
              case rel => exact ⟨k + 1, L', rfl, by go_num, by omega, by omega, rfl, hN.prs.trans hpl, hide (hN.vl.trans HV.out), hft3, hL3, hB.trans hB3⟩
            · have hk7i : ¬ (k : Int) ≤ 7 := by omega
              have hkd : decide ((k : Int) ≤ 7) = false := by simp; omega
              obtain rfl : k = 8 := by omega
              have HLk := hide (looks_d base wb L wr hL (by omega) (by omega))
              go_wp2_with fail
              refine HLk.out.mono ?_
              rintro e w4 ⟨rfl, hB4⟩
              go_wp2_with fail
              go_ret
              exact ⟨rfl, by rw [hbase]; exact hB.trans (hB4.mono hbr)⟩

end Go.Proofs.YtachmkhbbbmioaaGreat
