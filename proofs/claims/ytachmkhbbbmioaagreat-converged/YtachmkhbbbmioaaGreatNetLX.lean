import Derived.Test.YtachmkhbbbmioaaGreatStHaX
namespace Go.Proofs.YtachmkhbbbmioaaGreat
open Go.RowKit Go.Shelf

theorem infoPtr : (Tryz.prog.info? 36).map (fun i => (i.zero, i.size, i.bytes)) = some (some (.pointer none), 1, 8) := by kernel_rfl
theorem infoRuneK : (Tryz.prog.info? 21).map (fun i => (i.zero, i.size, i.bytes)) = some (some (.int .i32 0), 1, 4) := by kernel_rfl

theorem ptr_len (cps : List Cq) : ∀ y ∈ ptrRow cps, y.length = 1 := by
  intro y hy
  obtain ⟨x, -, rfl⟩ := List.mem_map.1 hy
  rfl
theorem ptr_one (cps : List Cq) : ∀ y ∈ ptrRow cps, ∀ c ∈ y, c.oneCell' = true := by
  intro y hy c hc
  obtain ⟨x, -, rfl⟩ := List.mem_map.1 hy
  simp only [List.mem_cons, List.not_mem_nil, or_false] at hc
  rw [hc]; rfl
theorem rune_len (rs : List Int) : ∀ y ∈ runeRow rs, y.length = 1 := by
  intro y hy
  obtain ⟨x, -, rfl⟩ := List.mem_map.1 hy
  rfl
theorem rune_one (rs : List Int) : ∀ y ∈ runeRow rs, ∀ c ∈ y, c.oneCell' = true := by
  intro y hy c hc
  obtain ⟨x, -, rfl⟩ := List.mem_map.1 hy
  simp only [List.mem_cons, List.not_mem_nil, or_false] at hc
  rw [hc]; rfl

/-- A copy's blocks are all its own. -/
def NS.zero : NS := ⟨.slice none 0 0, .slice none 0 0, .slice none 0 0, .slice none 0 0, [], [], [], []⟩

theorem NAt.init (w : World) : NAt w.heap.size w.heap.size NS.zero (w.alloc (netCells (.slice none 0 0) (.slice none 0 0) (.slice none 0 0) (.slice none 0 0))) := by
  refine ⟨by rw [heap_alloc_at]; simp [NS.zero], row_nil _ _ _, row_nil _ _ _, row_nil _ _ _, row_nil _ _ _, by simp [NS.zero], fun g hg => (by cases hg), fun _ => 0, fun k hk => ?_, by simp [NS.zero]⟩
  simp only [NS.own, NS.zero, Value.ownBlock, Option.toList_none, List.append_nil, List.mem_singleton] at hk
  exact ⟨rfl, by omega⟩

set_option maxRecDepth 100000 in
set_option maxHeartbeats 2000000 in
theorem openedK (n : Nat) (h1 : 1 ≤ n) (h8 : n ≤ 8) (w : World) :
    Calls Tryz.prog 19 #[.int .i64 n] w fun e w' => ∃ nb, e = .returned (.pointer (some ⟨nb, 0, none⟩)) ∧ ∃ N, NAt w.heap.size nb N w' ∧ N.cps.length = n ∧ (∀ (j : Nat) (x : Cq), N.cps[j]? = some x → x.S = newS n (j + 1)) ∧ N.air = [] ∧ N.wr = [] ∧ N.de = [] ∧ Below w.heap.size w w' := by
  have hN0 := NAt.init w
  have hB0 : Below w.heap.size w (w.alloc (netCells (.slice none 0 0) (.slice none 0 0) (.slice none 0 0) (.slice none 0 0))) := (Below.refl _ w).grown (grown_alloc (grown_refl _) _) (Nat.le_refl _) (by simp)
  go_enter Tryz.func19, Tryz.ntmps19
  go_upto_region 2 with fail
  generalize (w.alloc (netCells (.slice none 0 0) (.slice none 0 0) (.slice none 0 0) (.slice none 0 0))) = w1 at hN0 hB0 ⊢
  obtain ⟨base, hbase⟩ : ∃ base, w.heap.size = base := ⟨_, rfl⟩
  obtain ⟨nb, hnb⟩ : ∃ nb, w.heap.size = nb := ⟨_, rfl⟩
  have hN1 : NAt base nb NS.zero w1 := by subst hbase hnb; exact hN0
  rw [hbase] at hB0
  rw [hnb]
  clear hN0
  go_wp2_with fail
  go_loopg [4] n (fun gk s4 wr => ∃ (i : Nat) (N : NS), s4 = .int .i64 i ∧ 1 ≤ i ∧ i ≤ n + 1 ∧ gk = n + 1 - i ∧ N.cps.length + 1 = i ∧ (∀ (j : Nat) (x : Cq), N.cps[j]? = some x → x.S = newS n (j + 1)) ∧ (N.air = [] ∧ N.wr = [] ∧ N.de = []) ∧ NAt base nb N wr ∧ Below base w wr)
  case atStart => exact ⟨1, NS.zero, rfl, by omega, by omega, by omega, rfl, by simp [NS.zero], ⟨rfl, rfl, rfl⟩, hN1, hB0⟩
  case round =>
    clear hN1 hB0
    obtain ⟨i, N, rfl, hi1, hin, hgk, hpl, hS, hE, h, hB⟩ := hrel
    have hb : base ≤ wr.heap.size := by rw [← hbase]; exact hB.size
    by_cases hlt : i ≤ n
    · have hli : (i : Int) ≤ (n : Int) := by omega
      have hC := hide (cpNew_any n i hi1 hlt h8 wr)
      obtain ⟨al, cl, hvl, hcl⟩ := h.l.value
      rw [ptrRow_len] at hvl hcl
      have HVL := hide hvl
      clear hvl
      go_wp2_with fail
      refine hC.out.mono ?_
      rintro e w2 ⟨cb, sb, ma, mp, lb, mb, rfl, hcp, hG, hn1⟩
      have hL := h.grown hG
      obtain ⟨x, hxc, hxS, hP, hxn⟩ : ∃ x : Cq, x.cb = cb ∧ x.S = newS n i ∧ x.At w2 ∧ ∀ k ∈ x.own, wr.heap.size ≤ k := by
        refine ⟨⟨cb, sb, ma, mp, lb, mb, newS n i⟩, rfl, rfl, hcp, fun k hk => ?_⟩
        simp only [Cq.own, List.mem_cons, List.not_mem_nil, or_false] at hk
        omega
      subst hxc
      clear hcp hn1 hC
      have c0 : w2.cell? ⟨nb, 0, none⟩ = some (.slice al N.cps.length cl) := by rw [← HVL.out]; exact cell_blk hL.cp 0
      go_upto_region 8 with fail
      have g3 : w2.grownBy (w2.alloc (.cells #[.pointer (some ⟨x.cb, 0, none⟩)] 36)) none := grown_alloc (grown_refl _) _
      have hS3 : SrcAt (w2.alloc (.cells #[.pointer (some ⟨x.cb, 0, none⟩)] 36)) (.slice (some ⟨w2.heap.size, 0, none⟩) 1 1) (ptrRow [x]) := src_new w2 [x.ptr] _
      have hR3 := hL.l.grown g3
      rw [HVL.out] at hR3
      have hw3 := (g3.block _ (lt_of_heap hL.cp) (by simp)).trans hL.cp
      have nwl : (Value.slice al N.cps.length cl).ownBlock ≠ some nb := by rw [← HVL.out]; exact hL.l.neBlk hL.cp (by decide)
      have hwlt : nb < w2.heap.size := lt_of_heap hL.cp
      go_wp2_with (at_builtin; refine wpList_row Tryz.underlying55 infoPtr rfl (by decide) rfl _ _ rfl (.slice al N.cps.length cl) _ rfl hR3 _ _ rfl hS3 (ptr_len _) (ptr_one _) (by unfold maxLen; rw [ptrRow_len, ptrRow_len]; simp; omega) (by rw [ptrRow_len, ptrRow_len]; simp; omega) ?_; intro v' w4 hR4 hg4 hat; have k4 := (hg4.block _ (lt_of_heap hw3) (Ne.symm nwl)).trans hw3; have c4 : w4.cell? ⟨nb, 0, none⟩ = some (.slice al N.cps.length cl) := (cell_blk k4 0).trans (congrArg some HVL.out); have f4 : w4.frozen? ⟨nb, 0, none⟩ = false := frozen_blk k4 0; obtain ⟨a', c', hv', -⟩ := hR4.value; generalize hn3 : (ptrRow N.cps ++ ptrRow [x]).length = n3 at hv'; clear hn3; subst hv')
      have hM := h.more (vl' := .slice a' n3 c') (x := x) (w' := w4.setCell ⟨nb, 0, none⟩ (.slice a' n3 c')) hb (hP.kept (fun k hk => by
        have hk1 := hP.lt k hk
        have hk2 := hxn k hk
        have hk3 : k ≠ nb := by have := lt_of_heap h.cp; omega
        rw [Below.heap_setCell _ _ _ _ hk3, hg4.block k (by simp; omega) (fun q => by rw [← HVL.out] at q; have := h.l.lt q.symm; omega)]
        exact g3.block k hk1 (by simp))) hxn ((set_blk k4).trans rfl) (by
        have e : ptrRow (N.cps ++ [x]) = ptrRow N.cps ++ ptrRow [x] := by simp [ptrRow]
        rw [e]
        refine hR4.kept (fun q hq => Below.heap_setCell _ _ _ _ (fun e => ?_))
        subst e
        rcases hat with hat | hat
        · exact nwl (hat ▸ hq)
        · rw [hat] at hq
          simp only [Option.some.injEq, World.size_alloc] at hq
          omega) (((((Fr.refl _ wr).grown hG (by simp)).grown g3 (by simp)).grown hg4 (fun k hk => .inl (by rw [← HVL.out] at hk; simp [hk]))).setCell (p := ⟨nb, 0, none⟩) (.inl (by simp)) _) (by
        intro k hk
        rw [← HVL.out] at hat
        rcases hat with hat | hat
        · exact .inl (hat ▸ hk)
        · rw [hat] at hk
          simp only [Option.some.injEq, World.size_alloc] at hk
          have := hG.size
          exact .inr ⟨by omega, fun q => by have := hP.lt k q; omega⟩)
      go_roundg (n + 1 - (i + 1))
      case measure => omega
      case rel => exact ⟨i + 1, { N with vl := .slice a' n3 c', cps := N.cps ++ [x] }, by go_num, by omega, by omega, rfl, by simp; omega, fun j y hj => by
          have hj' : (N.cps ++ [x])[j]? = some y := hj
          rw [List.getElem?_append] at hj'
          split at hj'
          · exact hS j y hj'
          · rename_i q
            have hl := (List.getElem?_eq_some_iff.1 hj').1
            simp only [List.length_cons, List.length_nil] at hl
            have e : j = N.cps.length := by omega
            rw [e] at hj'
            simp at hj'
            rw [← hj', hxS, e, hpl], hE, hM.1, hB.trans hM.2⟩
    · have hli : ¬ (i : Int) ≤ (n : Int) := by omega
      go_wp2_with fail
      go_ret
      exact ⟨nb, rfl, N, h, by omega, hS, hE.1, hE.2.1, hE.2.2, hB⟩

end Go.Proofs.YtachmkhbbbmioaaGreat

namespace Go.Proofs.YtachmkhbbbmioaaGreat
open Go.RowKit Go.Shelf

theorem gm_apply {n : Nat} {C : Nat → CS} {i : Nat} {x z : OpR} (h : Gm n C z) : Gm n (updC C i (applyS (C i) x)) z := by
  refine ⟨h.1, ?_⟩
  by_cases q : z.o.toNat - 1 = i
  · rw [q, updC_same]; have := h.2; rw [q] at this; exact List.mem_cons_of_mem _ this
  · rw [updC_other C _ q]; exact h.2

/-- From one act to the next. -/
structure NextN (N N' : NS) : Prop where
  vl : N'.vl = N.vl
  cps : N'.cps.length = N.cps.length
  cnt : N'.wr.length + N'.de.length ≤ N.wr.length + N.de.length + 1
  air : N'.air.length ≤ N.air.length + 1000

theorem NextN.refl (N : NS) : NextN N N := ⟨rfl, rfl, by omega, by omega⟩

theorem NI.tx_run {base nb : Nat} {N : NS} {n : Nat} {w : World} (h : NI base nb N n w) {j : Nat} {x : Cq} (hj : N.cps[j]? = some x) (hK : N.wr.length ≤ 100) : ∀ r ∈ tx x.S, Run r := by
  intro r hr
  have e := NS.C_at hj
  rw [← e] at hr
  have := h.ok.t.bound (h.ok.tx_mem (h.inv hj).2.2.2 hr)
  exact ⟨this.1, by omega⟩

theorem NI.tx_len {base nb : Nat} {N : NS} {n : Nat} {w : World} (h : NI base nb N n w) {j : Nat} {x : Cq} (hj : N.cps[j]? = some x) : (tx x.S).length ≤ 1000000 := by
  have := (h.inv hj).1.good.len
  simpa [tx] using this

theorem NI.free {base nb : Nat} {N : NS} {n : Nat} {w : World} (h : NI base nb N n w) {j : Nat} {x : Cq} (hj : N.cps[j]? = some x) (hK : N.wr.length + N.de.length < 100) : decide (100 ≤ x.S.cl (x.S.s - 1) ∨ 1099511627776 ≤ x.S.g) = false := by
  obtain ⟨-, hn, hs, hl⟩ := h.inv hj
  have e := NS.C_at hj
  have h1 := h.ok.b.gk j hl
  have h2 := sumTo_one n hl (f := fun i => (N.C i).cl i) (fun i hi => h.ok.b.cl0 hi i)
  have h3 := h.ok.b.sum
  try simp only at h2
  rw [e] at h1 h2
  have e2 : x.S.s - 1 = j := by omega
  rw [e2]
  simp only [decide_eq_false_iff_not]
  omega

/-- The text behind an insert. -/
theorem tx_ins {S : CS} (hG : Good S) {r : Int} (hr : Lib.validRune r = true) {A R : List El} {p : Nat} (hC : CutIs S.L p A R) (cl : Nat → Int) (g : Int) (ops : List OpR) : ∃ a b, tx S = a ++ b ∧ tx { S with cl := cl, g := g, L := A ++ behind (newEl S r hr) R, ops := ops } = a ++ r :: b ∧ a.length = p := by
  obtain ⟨hL, hA, -, -⟩ := hC
  refine ⟨(vis A).map (fun e => e.r), (vis R).map (fun e => e.r), ?_, ?_, by simpa using hA⟩
  · unfold tx; rw [hL, vis_append, List.map_append]
  · unfold tx
    simp only
    rw [behind_top hG hr hL, vis_append, vis_cons_there (by rfl), List.map_append, List.map_cons]
    rfl

/-- The text behind a delete. -/
theorem tx_del {S : CS} {A R : List El} {y : El} {p : Nat} (hL : S.L = A ++ y :: R) (hA : (vis A).length = p) (hy : y.d = false) (cl : Nat → Int) (g : Int) (ops : List OpR) : ∃ a b, tx S = a ++ y.r :: b ∧ tx { S with cl := cl, g := g, L := A ++ gone y :: R, ops := ops } = a ++ b ∧ a.length = p := by
  refine ⟨(vis A).map (fun e => e.r), (vis R).map (fun e => e.r), ?_, ?_, by simpa using hA⟩
  · unfold tx; rw [hL, vis_append, vis_cons_there hy, List.map_append, List.map_cons]
  · unfold tx
    simp only
    rw [vis_append, vis_cons_gone (by rfl), List.map_append]

theorem valid_run {k : Nat} (h : k ≤ 100) : Lib.validRune (19968 + (k : Int)) = true := by
  unfold Lib.validRune
  rw [decide_eq_true_iff]
  omega

set_option maxRecDepth 100000 in
set_option maxHeartbeats 4000000 in
theorem insertsK (base nb n : Nat) (N : NS) (j : Nat) (x : Cq) (w : World) (h : NI base nb N n w) (hj : N.cps[j]? = some x) (hb : base ≤ w.heap.size) (hK : N.wr.length + N.de.length < 90) (p : Int) (hp1 : -9223372036854775808 ≤ p) (hp2 : p ≤ 9223372036854775807) :
    Calls Tryz.prog 55 #[.pointer (some ⟨nb, 0, none⟩), x.ptr, .int .i64 p] w fun e w' => e = .returned (.bool true) ∧ ∃ N', NI base nb N' n w' ∧ NextN N N' ∧ Below base w w' := by
  obtain ⟨hI, hxn, hxs, hjn⟩ := h.inv hj
  have hrun := h.tx_run hj (by omega)
  have hlen := h.tx_len hj
  have hfree := h.free hj (by omega)
  have hxlt := (h.at_.cps j x hj).lt
  obtain ⟨q, hq⟩ : ∃ q, N.wr.length = q := ⟨_, rfl⟩
  have hvr := valid_run (k := q) (by omega)
  have HT := hide (qText x w (h.at_.cps j x hj) hI)
  have HR := hide (fun w => runesK (tx x.S) hrun hlen w)
  have HP := hide (fun w => pickK p ((tx x.S).length + 1) (by omega) (by omega) hp1 hp2 w)
  have hkl := pkK_lt p (n := (tx x.S).length + 1) (by omega)
  obtain ⟨k, hk⟩ : ∃ k, pkK p ((tx x.S).length + 1) = k := ⟨_, rfl⟩
  rw [hk] at hkl HP
  have HIns := hide (fun w (hx : x.At w) => qIns x k (19968 + (q : Int)) (by omega) hvr hfree w hx hI)
  obtain ⟨m, hm⟩ : ∃ m, (tx x.S).length = m := ⟨_, rfl⟩
  rw [hm] at hkl HP
  have ecast : ((m + 1 : Nat) : Int) = (m : Int) + 1 := by omega
  rw [ecast] at HP
  obtain ⟨aw, cw, hvw, hcw⟩ := h.at_.wr.value
  rw [runeRow_len] at hvw hcw
  have HVW := hide hvw
  have hH := h.at_.lo
  have hwrap : IntKind.i32.wrap (19968 + (q : Int)) = 19968 + (q : Int) := by rw [IntKind.wrap_i32]; omega
  clear hk ecast
  go_enter Tryz.func55, Tryz.ntmps55
  go_wp2_with fail
  refine HT.out.mono ?_
  rintro e w1 ⟨rfl, hx1, hF1⟩
  go_wp2_with fail
  refine (HR.out w1).mono ?_
  rintro e w2 ⟨v1, rfl, hv1, hg1, g2⟩
  have hF2 : Fr x.own w w2 := hF1.grown g2 (by simp)
  have hx2 : x.At w2 := hx1.kept (fun k hk => g2.block k (hx1.lt k hk) (by simp))
  have hs2 : w.heap.size ≤ w2.heap.size := hF2.size
  have hg1' : ∀ g, v1.ownBlock = some g → w.heap.size ≤ g := fun g hg => Nat.le_trans hF1.size (hg1 g hg)
  obtain ⟨av, cv, hv1e, hcv⟩ := hv1.value
  rw [runeRow_len, hm] at hv1e hcv
  have hnb2 : w2.heap[nb]? = some (netCells N.vl N.va N.vw N.vd) := (hF2.block nb (lt_of_heap h.at_.cp) ((h.at_.apart hj).1 nb (by simp [NS.own]))).trans h.at_.cp
  have c2 : w2.cell? ⟨nb, 2, none⟩ = some (.slice aw q cw) := by rw [← hq, ← HVW.out]; exact cell_blk hnb2 2
  have HI2 := hide (HIns.out w2 hx2)
  subst hv1e
  go_wp2_with (go_at_call 20; refine (HP.out _).mono ?_; rintro e w' ⟨rfl, hw⟩; rw [hw]; clear hw w')
  refine HI2.out.mono ?_
  rintro e w3 ⟨rfl, A, R, hCut, hx3, hF3⟩
  have eC := NS.C_at hj
  have hins := h.ok.ins hjn (by omega) (A := A) (R := R) (by rw [eC]; exact hCut.1) (r := 19968 + (q : Int)) (by rw [hq]) hvr
  rw [eC] at hins
  obtain ⟨a, b, ht1, ht2, hal⟩ := tx_ins hI.good hvr hCut (bump x.S.cl (x.S.s - 1)) (x.S.g + 1) (opIns x.S (lc A) (lk A) (19968 + (q : Int)) :: x.S.ops)
  obtain ⟨S', hS'⟩ : ∃ S', { x.S with cl := bump x.S.cl (x.S.s - 1), g := x.S.g + 1, L := A ++ behind (newEl x.S (19968 + (q : Int)) hvr) R, ops := opIns x.S (lc A) (lk A) (19968 + (q : Int)) :: x.S.ops } = S' := ⟨_, rfl⟩
  rw [hS'] at hins ht2
  have hx3' : Cq.At { x with S := S' } w3 := by rw [← hS']; exact hx3
  obtain ⟨hap, hok⟩ := hins
  have hgm : ∀ z, Gm n N.C z → Gm n (updC N.C j S') z := fun z hz => by
    have := gm_apply (i := j) (x := opIns x.S (lc A) (lk A) (19968 + (q : Int))) hz
    rw [eC, hap] at this
    exact this
  rw [hap] at hok
  have hI' : Inv S' := by have := hok.b.inv j hjn; rw [updC_same] at this; exact this
  clear hx3 hap hS' HIns HI2 hwrap hCut
  have hrr : 19968 ≤ 19968 + (q : Int) ∧ 19968 + (q : Int) < 20200 := by omega
  generalize hre : (19968 + (q : Int)) = r at hvr hok ht2 hgm hrr ⊢
  have HRE := hide hre
  clear hre hvr
  have hF3' : Fr x.own w w3 := hF2.trans hF3
  have hrun' : ∀ r ∈ tx S', Run r := fun r hr => by
    rw [ht2] at hr
    rcases List.mem_append.1 hr with hr | hr
    · exact hrun r (by rw [ht1]; simp [hr])
    · rcases List.mem_cons.1 hr with rfl | hr
      · exact hrr
      · exact hrun r (by rw [ht1]; simp [hr])
  have hml : a.length + b.length = m := by rw [← hm, ht1, List.length_append]
  have hlen' : (tx S').length = m + 1 := by rw [ht2]; simp; omega
  have HT3 := hide (qText { x with S := S' } w3 hx3' hI')
  have HR3 := hide (fun w => runesK (tx S') hrun' (by have := hI'.good.len; simpa [tx] using this) w)
  have HT1 := hide ht1
  have HT2 := hide ht2
  have hmb : m ≤ 1000000 := by omega
  have hqb : q < 90 := by omega
  clear ht1 ht2 hlen' hm
  go_wp2_with fail
  refine HT3.out.mono ?_
  rintro e w4 ⟨rfl, hx4, hF4⟩
  go_wp2_with fail
  refine (HR3.out w4).mono ?_
  rintro e w5 ⟨v2, rfl, hv2, hg2, g5⟩
  clear HT HR HP HT3 HR3
  have hF4' : Fr x.own w w4 := hF3'.trans hF4
  have hF5 : Fr x.own w w5 := hF4'.grown g5 (by simp)
  have hx5 : Cq.At { x with S := S' } w5 := hx4.kept (fun k hk => g5.block k (hx4.lt k hk) (by simp))
  obtain ⟨hN5, hB5⟩ := h.at_.turn hj hb hx5 hF5
  have hg2' : ∀ g, v2.ownBlock = some g → w.heap.size ≤ g := fun g hg => Nat.le_trans hF4'.size (hg2 g hg)
  have hv1' : RowAt 21 1 (.slice av m cv) (runeRow (a ++ b)) w5 := by
    rw [← HT1.out]
    have key : ∀ k, w.heap.size ≤ k → k ∉ x.own := fun k hk q => by have := hxlt k q; omega
    exact (((hv1.kept (fun g hg => hF3.block g (hv1.lt hg) (key g (hg1' g hg)))).kept (fun g hg => hF4.block g (Nat.lt_of_lt_of_le (hv1.lt hg) hF3.size) (key g (hg1' g hg))))).grown g5
  rw [HT2.out] at hv2
  obtain ⟨au, cu, hv2e, hcu⟩ := hv2.value
  obtain ⟨m2, hm2⟩ : ∃ m2, m + 1 = m2 := ⟨_, rfl⟩
  have hru : (runeRow (a ++ r :: b)).length = m2 := by rw [runeRow_len, ← hm2]; simp; omega
  rw [hru] at hv2e hcu
  subst hv2e
  obtain ⟨g2k, c2k, cur2, hv2k, -, hb2, hcell2⟩ := hv2.cell (i := k) (runeRow_at (r := r) (by rw [← hal]; simp))
  rw [hru] at hv2k
  cases hv2k
  have k2 : w5.cell? ⟨g2k, k, none⟩ = some (.int .i32 r) := (cell_blk hb2 _).trans (by simpa using hcell2 0 _ rfl)
  have hne1 : ((m2 : Int) != (m : Int) + 1) = false := by simp; omega
  have hne2 : (r != r) = false := by simp
  have hkm : (k : Int) < (m2 : Int) := by omega
  have HM2 := hide hm2
  have HML := hide hml
  have HAL := hide hal
  clear hm2 hml hal hru
  have hnb5 := hN5.cp
  have c5 : w5.cell? ⟨nb, 2, none⟩ = some (.slice aw q cw) := by rw [← hq, ← HVW.out]; exact cell_blk hnb5 2
  clear hcell2 hb2 hv1 hx4 hx3' hx1 hx2 c2 hnb2
  have hkl' := hide hkl
  have hKK := hide hK
  clear hkl hK hcv hcw hvw
  go_upto_region 8 with fail
  have g6 : w5.grownBy (w5.alloc (.cells #[.int .i32 r] 21)) none := grown_alloc (grown_refl _) _
  have hS6 : SrcAt (w5.alloc (.cells #[.int .i32 r] 21)) (.slice (some ⟨w5.heap.size, 0, none⟩) 1 1) (runeRow [r]) := src_new w5 [.int .i32 r] _
  have hN6 := hN5.grown g6
  have hR6 : RowAt 21 1 (.slice aw q cw) (runeRow N.wr) (w5.alloc (.cells #[.int .i32 r] 21)) := by rw [← hq, ← HVW.out]; exact hN6.wr
  have hw6 := hN6.cp
  have nww : (Value.slice aw q cw).ownBlock ≠ some nb := by rw [← hq, ← HVW.out]; exact hN5.wr.neBlk hN5.cp (by decide)
  have hwlt : nb < w5.heap.size := lt_of_heap hN5.cp
  have hb5 : base ≤ w5.heap.size := Nat.le_trans hb hF5.size
  have hsz5 : w.heap.size ≤ w5.heap.size := hF5.size
  have hlq : (runeRow N.wr).length = q := by rw [runeRow_len, hq]
  go_wp2_with (at_builtin; refine wpList_row Tryz.underlying56 infoRuneK rfl (by decide) rfl _ _ rfl (.slice aw q cw) _ rfl hR6 _ _ rfl hS6 (rune_len _) (rune_one _) (by rw [hlq, runeRow_len]; unfold maxLen; simp; omega) (by rw [hlq, runeRow_len]; simp; omega) ?_; intro v' w7 hR7 hg7 hat; have k7 := (hg7.block _ (lt_of_heap hw6) (Ne.symm nww)).trans hw6; have c7 : w7.cell? ⟨nb, 2, none⟩ = some (.slice aw q cw) := (cell_blk k7 2).trans (congrArg some (by rw [← hq]; exact HVW.out)); have f7 : w7.frozen? ⟨nb, 2, none⟩ = false := frozen_blk k7 2; obtain ⟨a', c', hv', -⟩ := hR7.value; generalize hn3 : (runeRow N.wr ++ runeRow [r]).length = n3 at hv'; clear hn3; subst hv')
  have nwa : N.vw.ownBlock = (Value.slice aw q cw).ownBlock := by rw [← hq, ← HVW.out]
  obtain ⟨hM, hBM⟩ := hN6.wrote (vw' := .slice a' n3 c') (wr' := N.wr ++ [r]) (w' := w7.setCell ⟨nb, 2, none⟩ (.slice a' n3 c')) (by simp; omega) ((set_blk k7).trans rfl) (by
    have e : runeRow (N.wr ++ [r]) = runeRow N.wr ++ runeRow [r] := by simp [runeRow]
    rw [e]
    refine hR7.kept (fun g hg => Below.heap_setCell _ _ _ _ (fun e => ?_))
    subst e
    rcases hat with hat | hat
    · exact nww (hat ▸ hg)
    · rw [hat] at hg
      simp only [Option.some.injEq, World.size_alloc] at hg
      omega) (((Fr.refl _ _).grown hg7 (fun k hk => .inl (by rw [← nwa] at hk; simp [hk]))).setCell (p := ⟨nb, 2, none⟩) (.inl (by simp)) _) (fun g hg => by
    rw [← nwa] at hat
    rcases hat with hat | hat
    · exact .inl (hat ▸ hg)
    · rw [hat] at hg; cases hg; exact .inr (Nat.le_refl _))
  have hnbw : nb < w.heap.size := lt_of_heap h.at_.cp
  have key8 : ∀ g, w.heap.size ≤ g → g < w5.heap.size → (w7.setCell ⟨nb, 2, none⟩ (.slice a' n3 c')).heap[g]? = w5.heap[g]? := fun g h1 h2 => by
    rw [Below.heap_setCell _ _ _ _ (show g ≠ nb by omega), hg7.block g (by simp; omega) (fun q => by rw [← nwa] at q; have := h.at_.wr.lt q.symm; omega)]
    exact g6.block g h2 (by simp)
  have hg1'' : ∀ g, (Value.slice av m cv).ownBlock = some g → w.heap.size ≤ g := hg1'
  have hrow1 : RowAt 21 1 (.slice av m cv) (runeRow (a ++ b)) (w7.setCell ⟨nb, 2, none⟩ (.slice a' n3 c')) := hv1'.kept (fun g hg => key8 g (hg1'' g hg) (hv1'.lt hg))
  have hrow2 : RowAt 21 1 (.slice (some ⟨g2k, 0, none⟩) m2 cu) (runeRow (a ++ r :: b)) (w7.setCell ⟨nb, 2, none⟩ (.slice a' n3 c')) := hv2.kept (fun g hg => key8 g (hg2' g hg) (hv2.lt hg))
  have hBw : Below base w (w7.setCell ⟨nb, 2, none⟩ (.slice a' n3 c')) := (hB5.grown g6 hb5 (by simp)).trans hBM
  have hCN := NS.C_set hj S'
  have hNI : NI base nb { vl := N.vl, va := N.va, vw := .slice a' n3 c', vd := N.vd, cps := N.cps.set j { x with S := S' }, air := N.air, wr := N.wr ++ [r], de := N.de } n (w7.setCell ⟨nb, 2, none⟩ (.slice a' n3 c')) := by
    refine ⟨hM, by simp [h.len], ?_, fun s hs => ?_⟩
    · show NetOk n (NS.C { N with cps := N.cps.set j { x with S := S' } }) (N.wr ++ [r]) N.de
      rw [hCN]; exact hok
    · show DgOk n (Gm n (NS.C { N with cps := N.cps.set j { x with S := S' } })) s
      rw [hCN]; exact (h.air s hs).mono hgm
  have HNI := hide hNI
  clear hNI hM hBM key8 hv1' hv2 hR7 hg7 hat k7 c7 f7 hR6 hw6 hN6 hS6 g6 hN5 hB5 hok hgm hrun hrun' hF5 hF4' hF4 hF3' hF3 hF2 hF1 hI' hI hfree hxn hxs eC hx5 c5 k2 hCN
  generalize (w7.setCell ⟨nb, 2, none⟩ (.slice a' n3 c')) = w8 at HNI hrow1 hrow2 hBw ⊢
  have hb8 : base ≤ w8.heap.size := Nat.le_trans hb hBw.size
  go_loopg [12, 13] m (fun gk s12 _s13 wr => ∃ (i : Nat), s12 = .int .i64 i ∧ i ≤ m ∧ gk = m - i ∧ w8.grownBy wr none)
  case atStart => exact ⟨0, rfl, by omega, rfl, grown_refl _⟩
  case round =>
    obtain ⟨i, rfl, him, hgk, hG⟩ := hrel
    by_cases hlt : i < m
    · have hli : (i : Int) < (m : Int) := by omega
      have hml := HML.out
      have hal := HAL.out
      obtain ⟨y, hy⟩ : ∃ y, (a ++ b)[i]? = some y := ⟨(a ++ b)[i]'(by simp; omega), by simp⟩
      obtain ⟨g1k, c1k, cur1, hv1k, -, hb1, hx1⟩ := (hrow1.grown hG).cell (i := i) (runeRow_at hy)
      have hl1 : (runeRow (a ++ b)).length = m := by rw [runeRow_len]; simp; omega
      rw [hl1] at hv1k
      cases hv1k
      have k1 : wr.cell? ⟨g1k, i, none⟩ = some (.int .i32 y) := (cell_blk hb1 _).trans (by simpa using hx1 0 _ rfl)
      have hny : (y != y) = false := by simp
      by_cases hik : i < k
      · have hiki : ¬ (k : Int) ≤ (i : Int) := by omega
        have hz : (a ++ r :: b)[i]? = some y := by
          rw [List.getElem?_append_left (by omega)] at hy ⊢
          exact hy
        obtain ⟨g3, c3, cur3, hv3, -, hb3, hx3⟩ := (hrow2.grown hG).cell (i := i) (runeRow_at hz)
        have hl2 : (runeRow (a ++ r :: b)).length = m2 := by rw [runeRow_len, ← HM2.out]; simp; omega
        rw [hl2] at hv3
        cases hv3
        have k3 : wr.cell? ⟨g2k, i, none⟩ = some (.int .i32 y) := (cell_blk hb3 _).trans (by simpa using hx3 0 _ rfl)
        have him2 : (i : Int) < (m2 : Int) := by have := HM2.out; omega
        clear hx3 hb3 hx1 hb1 hml hal hl1 hl2 hy hz
        go_wp2_with fail
        go_quiet (fail)
        go_wp2_with fail
        go_roundg (m - (i + 1))
        case measure => omega
        case rel => exact ⟨i + 1, by go_num, by omega, rfl, grown_trans hG (grown_drewN _ _)⟩
      · have hiki : (k : Int) ≤ (i : Int) := by omega
        have hz : (a ++ r :: b)[i + 1]? = some y := by
          rw [List.getElem?_append_right (by omega)] at hy ⊢
          rw [show i + 1 - a.length = (i - a.length) + 1 by omega, List.getElem?_cons_succ]
          exact hy
        obtain ⟨g3, c3, cur3, hv3, -, hb3, hx3⟩ := (hrow2.grown hG).cell (i := i + 1) (runeRow_at hz)
        have hl2 : (runeRow (a ++ r :: b)).length = m2 := by rw [runeRow_len, ← HM2.out]; simp; omega
        rw [hl2] at hv3
        cases hv3
        have k3 : wr.cell? ⟨g2k, i + 1, none⟩ = some (.int .i32 y) := (cell_blk hb3 _).trans (by simpa using hx3 0 _ rfl)
        have him2 : (i : Int) + 1 < (m2 : Int) := by have := HM2.out; omega
        clear hx3 hb3 hx1 hb1 hml hal hl1 hl2 hy hz
        go_wp2_with fail
        go_quiet (fail)
        go_wp2_with fail
        go_roundg (m - (i + 1))
        case measure => omega
        case rel => exact ⟨i + 1, by go_num, by omega, rfl, grown_trans hG (grown_drewN _ _)⟩
    · have hli : ¬ (i : Int) < (m : Int) := by omega
      go_wp2_with fail
      go_ret
      refine ⟨rfl, _, ⟨HNI.out.at_.grown hG, HNI.out.len, HNI.out.ok, HNI.out.air⟩, ⟨rfl, by simp, by simp; omega, by simp⟩, hBw.grown hG hb8 (by simp)⟩

end Go.Proofs.YtachmkhbbbmioaaGreat
