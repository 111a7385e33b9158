import Derived.Test.YtdknckokdpaadaaGreatRefN
namespace Go.Proofs.YtdknckokdpaadaaGreat
open Go.RowKit Go.Shelf

/-- A copy of the program and the document's. -/
structure Pr where
  cb : Nat
  sb : Nat
  ma : Nat
  mp : Nat
  lb : Nat
  mb : Nat
  yb : Nat
  vc : Value
  vl : Value
  vL : Value
  S : CS
  log : List (List Value)

def Pr.own (x : Pr) : List Nat := [x.cb, x.sb, x.ma, x.mp, x.lb, x.mb] ++ refOwn x.yb x.vc x.vl (.slice none 0 0) x.vL

def sumcl (S : CS) : Int := S.cl 0 + S.cl 1 + S.cl 2 + S.cl 3 + S.cl 4 + S.cl 5 + S.cl 6 + S.cl 7

structure PairAt (x : Pr) (w : World) : Prop where
  cp : CpAt x.cb x.sb x.ma x.mp x.lb x.mb x.S w
  rf : RefAt x.yb x.S x.vc x.vl (.slice none 0 0) x.vL x.log [] w
  good : Good x.S
  len : (x.S.L.length : Int) ≤ sumcl x.S
  log : (x.log.length : Int) ≤ sumcl x.S

theorem sum_le {S : CS} (h : Good S) : sumcl S ≤ 800 := by
  have h0 := h.cl 0 (by omega)
  have h1 := h.cl 1 (by omega)
  have h2 := h.cl 2 (by omega)
  have h3 := h.cl 3 (by omega)
  have h4 := h.cl 4 (by omega)
  have h5 := h.cl 5 (by omega)
  have h6 := h.cl 6 (by omega)
  have h7 := h.cl 7 (by omega)
  unfold sumcl
  omega

theorem sum_bump (S : CS) (g : Int) (L : List El) : ∀ i, i < 8 → sumcl { S with cl := bump S.cl i, g := g, L := L } = sumcl S + 1
  | 0, _ => by simp [sumcl, bump]; omega
  | 1, _ => by simp [sumcl, bump]; omega
  | 2, _ => by simp [sumcl, bump]; omega
  | 3, _ => by simp [sumcl, bump]; omega
  | 4, _ => by simp [sumcl, bump]; omega
  | 5, _ => by simp [sumcl, bump]; omega
  | 6, _ => by simp [sumcl, bump]; omega
  | 7, _ => by simp [sumcl, bump]; omega
  | _ + 8, h => by omega

theorem CpAt.kept {cb sb ma mp lb mb : Nat} {S : CS} {w w' : World} (h : CpAt cb sb ma mp lb mb S w) (e : ∀ k ∈ [cb, sb, ma, mp, lb, mb], w'.heap[k]? = w.heap[k]?) : CpAt cb sb ma mp lb mb S w' :=
  ⟨(e cb (by simp)).trans h.cp, h.st.kept (fun k hk => e k (by simp; omega))⟩

theorem CpAt.lt {cb sb ma mp lb mb : Nat} {S : CS} {w : World} (h : CpAt cb sb ma mp lb mb S w) : ∀ k ∈ [cb, sb, ma, mp, lb, mb], k < w.heap.size := by
  intro k hk
  simp only [List.mem_cons, List.not_mem_nil, or_false] at hk
  rcases hk with rfl | hk
  · exact lt_of_heap h.cp
  · exact h.st.lts k (by omega)

theorem PairAt.kept {x : Pr} {w w' : World} (h : PairAt x w) (e : ∀ k ∈ x.own, w'.heap[k]? = w.heap[k]?) : PairAt x w' :=
  ⟨h.cp.kept (fun k hk => e k (List.mem_append_left _ hk)), h.rf.kept (fun k hk => e k (List.mem_append_right _ hk)), h.good, h.len, h.log⟩

theorem PairAt.lt {x : Pr} {w : World} (h : PairAt x w) : ∀ k ∈ x.own, k < w.heap.size := by
  intro k hk
  rcases List.mem_append.1 hk with hk | hk
  · exact h.cp.lt k hk
  · exact h.rf.lt k hk

theorem PairAt.l1000 {x : Pr} {w : World} (h : PairAt x w) : x.S.L.length ≤ 1000 ∧ x.log.length ≤ 1000 := by
  have h1 := sum_le h.good
  have h2 := h.len
  have h3 := h.log
  omega

/-- What the document's copy holds is none of the program's. -/
theorem refOwn_cells {yb : Nat} {S : CS} {vc vl vw vL : Value} {log wt : List (List Value)} {w : World} (h : RefAt yb S vc vl vw vL log wt w) : ∀ k ∈ refOwn yb vc vl vw vL, ∃ c e, w.heap[k]? = some (.cells c e) ∧ (e = 79 ∨ e = 3 ∨ e = 107 ∨ e = 96) := by
  intro k hk
  simp only [refOwn, List.mem_cons, List.mem_append, Option.mem_toList] at hk
  rcases hk with rfl | hk | hk | hk | hk
  · exact ⟨_, _, h.cp, .inl rfl⟩
  · obtain ⟨c, hc⟩ := h.ck.blk hk; exact ⟨_, _, hc, .inr (.inl rfl)⟩
  · obtain ⟨c, hc⟩ := h.lg.blk hk; exact ⟨_, _, hc, .inr (.inr (.inl rfl))⟩
  · obtain ⟨c, hc⟩ := h.wt.blk hk; exact ⟨_, _, hc, .inr (.inr (.inl rfl))⟩
  · obtain ⟨c, hc⟩ := h.ln.blk hk; exact ⟨_, _, hc, .inr (.inr (.inr rfl))⟩

theorem sep_of {cb sb ma mp lb mb yb : Nat} {S S' : CS} {vc vl vw vL : Value} {log wt : List (List Value)} {w : World} (hc : CpAt cb sb ma mp lb mb S w) (h : RefAt yb S' vc vl vw vL log wt w) : ∀ k ∈ refOwn yb vc vl vw vL, k ∉ [cb, sb, ma, mp, lb, mb] := by
  intro k hk q
  obtain ⟨c, e, h1, h2⟩ := refOwn_cells h k hk
  obtain ⟨E, l1, -⟩ := hc.st.ln
  obtain ⟨EA, ca, ha⟩ := hc.st.app
  obtain ⟨cp, hp⟩ := hc.st.pen
  obtain ⟨cbb, hb⟩ := l1.ents
  simp only [List.mem_cons, List.not_mem_nil, or_false] at q
  rcases q with rfl | rfl | rfl | rfl | rfl | rfl
  · rw [hc.cp] at h1; cases h1; revert h2; decide
  · rw [hc.st.st] at h1; cases h1; revert h2; decide
  · rw [ha] at h1; cases h1
  · rw [hp] at h1; cases h1
  · rw [l1.line] at h1; cases h1; revert h2; decide
  · rw [hb] at h1; cases h1

theorem PairAt.apart {x : Pr} {w : World} (h : PairAt x w) : Apart x.S.L := by
  obtain ⟨E, -, h1⟩ := h.cp.st.ln
  exact h1.apart

/-- Behind a write of the pair. -/
def After (x : Pr) (w w2 : World) : Prop := ∃ x' : Pr, PairAt x' w2 ∧ x'.cb = x.cb ∧ x'.yb = x.yb ∧ Fr x.own w w2 ∧ OwnFrom x.own x'.own w.heap.size

theorem own4_sub (x : Pr) : ∀ k ∈ own4 x.cb x.sb x.ma x.mb, k ∈ x.own := by
  intro k hk
  simp only [List.mem_cons, List.not_mem_nil, or_false] at hk
  refine List.mem_append_left _ ?_
  simp
  omega

theorem own4_in {cb sb ma mp lb mb : Nat} : ∀ k ∈ own4 cb sb ma mb, k ∈ [cb, sb, ma, mp, lb, mb] := by
  intro k hk
  simp only [List.mem_cons, List.not_mem_nil, or_false] at hk ⊢
  omega

/-- The program's call, then the document's, when nothing is written. -/
theorem after_same {x : Pr} {w w1 w2 : World} (h : PairAt x w) (hc : CpAt x.cb x.sb x.ma x.mp x.lb x.mb x.S w1) (hF : Fr (own4 x.cb x.sb x.ma x.mb) w w1) (hB : Below w1.heap.size w1 w2) : After x w w2 := by
  have hs := sep_of h.cp h.rf
  have hr1 : RefAt x.yb x.S x.vc x.vl (.slice none 0 0) x.vL x.log [] w1 := h.rf.kept (fun k hk => hF.block k (h.rf.lt k hk) (fun q => hs k hk (own4_in k q)))
  have hc2 : CpAt x.cb x.sb x.ma x.mp x.lb x.mb x.S w2 := hc.kept (fun k hk => hB.block k (hc.lt k hk))
  exact ⟨x, ⟨hc2, hr1.below hB, h.good, h.len, h.log⟩, rfl, rfl, (hF.mono (own4_sub x)).below hB hF.size, fun k hk => .inl hk⟩

theorem ref_after {x : Pr} {w w1 : World} (h : PairAt x w) (hF : Fr (own4 x.cb x.sb x.ma x.mb) w w1) : RefAt x.yb x.S x.vc x.vl (.slice none 0 0) x.vL x.log [] w1 := by
  have hs := sep_of h.cp h.rf
  exact h.rf.kept (fun k hk => hF.block k (h.rf.lt k hk) (fun q => hs k hk (own4_in k q)))

/-- The program's call, then the document's, when both write. -/
theorem after_write {x : Pr} {w w1 w2 : World} {S' : CS} {vl' vL' : Value} {log' : List (List Value)} (h : PairAt x w) (hc : CpAt x.cb x.sb x.ma x.mp x.lb x.mb S' w1) (hF : Fr (own4 x.cb x.sb x.ma x.mb) w w1) (hr : RefAt x.yb S' x.vc vl' (.slice none 0 0) vL' log' [] w2)
    (hF2 : Fr (refOwn x.yb x.vc x.vl (.slice none 0 0) x.vL) w1 w2) (ho : OwnFrom (refOwn x.yb x.vc x.vl (.slice none 0 0) x.vL) (refOwn x.yb x.vc vl' (.slice none 0 0) vL') w1.heap.size) (hg : Good S') (hl : (S'.L.length : Int) ≤ sumcl S') (hlog : (log'.length : Int) ≤ sumcl S') : After x w w2 := by
  have hs := sep_of hc (ref_after h hF)
  have hc2 : CpAt x.cb x.sb x.ma x.mp x.lb x.mb S' w2 := hc.kept (fun k hk => hF2.block k (hc.lt k hk) (fun q => hs k q hk))
  refine ⟨{ x with vl := vl', vL := vL', S := S', log := log' }, ⟨hc2, hr, hg, hl, hlog⟩, rfl, rfl, (hF.mono (own4_sub x)).trans (hF2.mono (fun k hk => List.mem_append_right _ hk)), fun k hk => ?_⟩
  rcases List.mem_append.1 hk with hk | hk
  · exact .inl (List.mem_append_left _ hk)
  · exact (ho k hk).imp (fun q => List.mem_append_right _ q) (fun q => Nat.le_trans hF.size q)

theorem good_ins {S : CS} (hG : Good S) (hl : S.L.length ≤ 1000) (hfu : decide (100 ≤ S.cl (S.s - 1) ∨ 1099511627776 ≤ S.g) = false) {r : Int} (hr : Lib.validRune r = true) {A R : List El} (hL : S.L = A ++ R) :
    Good { S with cl := bump S.cl (S.s - 1), g := S.g + 1, L := A ++ behind (newEl S r hr) R } ∧ (A ++ behind (newEl S r hr) R).length = S.L.length + 1 := by
  have hnf := of_decide_eq_false hfu
  have hlen : (A ++ newEl S r hr :: R).length = S.L.length + 1 := by rw [hL]; simp; omega
  rw [behind_top hG hr hL]
  refine ⟨⟨hG.s1, hG.sn, hG.n8, ?_, ?_, ?_, ?_, ?_⟩, hlen⟩
  · have := hG.g0; show 0 ≤ S.g + 1; omega
  · show S.g + 1 ≤ _; omega
  · intro i hi
    show 0 ≤ bump S.cl (S.s - 1) i ∧ bump S.cl (S.s - 1) i ≤ 100
    have h2 := hG.cl i hi
    by_cases q : i = S.s - 1
    · subst q
      rw [bump_same]; omega
    · rw [bump_other _ q]; exact h2
  · show (vis (A ++ newEl S r hr :: R)).length ≤ _
    have : (vis (A ++ newEl S r hr :: R)).length ≤ (A ++ newEl S r hr :: R).length := List.length_filter_le _ _
    omega
  · intro x hx
    show 0 < x.c ∧ x.c ≤ S.g + 1
    rcases List.mem_append.1 hx with hx | hx
    · have := hG.mark x (by rw [hL]; simp [hx]); omega
    · rcases List.mem_cons.1 hx with rfl | hx
      · have := hG.g0; simp only [newEl]; omega
      · have := hG.mark x (by rw [hL]; simp [hx]); omega

theorem good_del {S : CS} (hG : Good S) (hl : S.L.length ≤ 1000) (hfu : decide (100 ≤ S.cl (S.s - 1) ∨ 1099511627776 ≤ S.g) = false) {A R : List El} {x : El} (hL : S.L = A ++ x :: R) :
    Good { S with cl := bump S.cl (S.s - 1), g := S.g + 1, L := A ++ gone x :: R } ∧ (A ++ gone x :: R).length = S.L.length := by
  have hnf := of_decide_eq_false hfu
  have hlen : (A ++ gone x :: R).length = S.L.length := by rw [hL]; simp
  refine ⟨⟨hG.s1, hG.sn, hG.n8, ?_, ?_, ?_, ?_, ?_⟩, hlen⟩
  · have := hG.g0; show 0 ≤ S.g + 1; omega
  · show S.g + 1 ≤ _; omega
  · intro i hi
    show 0 ≤ bump S.cl (S.s - 1) i ∧ bump S.cl (S.s - 1) i ≤ 100
    have h2 := hG.cl i hi
    by_cases q : i = S.s - 1
    · subst q
      rw [bump_same]; omega
    · rw [bump_other _ q]; exact h2
  · show (vis (A ++ gone x :: R)).length ≤ _
    have : (vis (A ++ gone x :: R)).length ≤ (A ++ gone x :: R).length := List.length_filter_le _ _
    omega
  · intro y hy
    show 0 < y.c ∧ y.c ≤ S.g + 1
    rcases List.mem_append.1 hy with hy | hy
    · have := hG.mark y (by rw [hL]; simp [hy]); omega
    · rcases List.mem_cons.1 hy with rfl | hy
      · have := hG.mark x (by rw [hL]; simp)
        simp only [gone]; omega
      · have := hG.mark y (by rw [hL]; simp [hy]); omega

theorem pair_ins (x : Pr) (p r : Int) (w : World) (h : PairAt x w) :
    ∃ code : Int, Calls Tryz.prog 31 #[.pointer (some ⟨x.cb, 0, none⟩), .int .i64 p, .int .i32 r] w fun e w1 => e = .returned (.int .i64 code) ∧ Fr x.own w w1 ∧
      Calls Tryz.prog 32 #[.pointer (some ⟨x.yb, 0, none⟩), .int .i64 p, .int .i64 r] w1 fun e2 w2 => e2 = .returned (.int .i64 code) ∧ After x w w2 := by
  obtain ⟨l1, l2⟩ := h.l1000
  have err : ∀ (c : Int), (∀ w1, StAt x.sb x.ma x.mp x.lb x.mb x.S w1 → Calls Tryz.prog 51 #[.pointer (some ⟨x.sb, 0, none⟩), .int .i64 p, .int .i32 r] w1 fun e w2 => e = .returned (.int .i64 c) ∧ Below w1.heap.size w1 w2) →
      (∀ w1, RefAt x.yb x.S x.vc x.vl (.slice none 0 0) x.vL x.log [] w1 → Calls Tryz.prog 32 #[.pointer (some ⟨x.yb, 0, none⟩), .int .i64 p, .int .i64 r] w1 fun e w2 => e = .returned (.int .i64 c) ∧ Below w1.heap.size w1 w2) →
      Calls Tryz.prog 31 #[.pointer (some ⟨x.cb, 0, none⟩), .int .i64 p, .int .i32 r] w fun e w1 => e = .returned (.int .i64 c) ∧ Fr x.own w w1 ∧
        Calls Tryz.prog 32 #[.pointer (some ⟨x.yb, 0, none⟩), .int .i64 p, .int .i64 r] w1 fun e2 w2 => e2 = .returned (.int .i64 c) ∧ After x w w2 := by
    intro c hin href
    refine (face_ins x.cb x.sb x.ma x.mp x.lb x.mb x.S p r w h.cp (.int .i64 c) (fun w2 => StAt x.sb x.ma x.mp x.lb x.mb x.S w2) (fun w1 _ hS => ?_)).mono ?_
    · refine (hin w1 hS).mono ?_
      rintro e w2 ⟨rfl, hB⟩
      exact ⟨rfl, hS.below hB, Fr.ofBelow hB⟩
    · rintro e w' ⟨rfl, w2, hS2, hk, rfl, hF⟩
      refine ⟨rfl, hF.mono (own4_sub x), (href _ (ref_after h hF)).mono ?_⟩
      rintro e w3 ⟨rfl, hB⟩
      exact ⟨rfl, after_same h (CpAt.unlock hS2 hk) hF hB⟩
  by_cases c1 : p < 0 ∨ ((vis x.S.L).length : Int) < p
  · exact ⟨3, err 3 (fun w1 hS => stIns_place _ _ _ _ _ x.S p r w1 hS h.good.len c1) (fun w1 hr => ref_ins_place _ _ _ _ _ _ _ _ p r w1 hr (by omega) c1)⟩
  by_cases c2 : Lib.validRune r = false
  · exact ⟨4, err 4 (fun w1 hS => stIns_rune _ _ _ _ _ x.S p r w1 hS h.good.len (by omega) (by omega) c2) (fun w1 hr => ref_ins_rune _ _ _ _ _ _ _ _ p r w1 hr (by omega) (by omega) (by omega) c2)⟩
  have c2' : Lib.validRune r = true := by simpa using c2
  by_cases c3 : decide (100 ≤ x.S.cl (x.S.s - 1) ∨ 1099511627776 ≤ x.S.g) = true
  · exact ⟨5, err 5 (fun w1 hS => stIns_full _ _ _ _ _ x.S h.good p r w1 hS (by omega) (by omega) c2' c3) (fun w1 hr => ref_ins_full _ _ h.good _ _ _ _ _ _ p r w1 hr (by omega) (by omega) (by omega) c2' c3)⟩
  have c3' : decide (100 ≤ x.S.cl (x.S.s - 1) ∨ 1099511627776 ≤ x.S.g) = false := by simpa using c3
  obtain ⟨q, rfl⟩ := Int.eq_ofNat_of_zero_le (show 0 ≤ p by omega)
  refine ⟨0, (face_ins x.cb x.sb x.ma x.mp x.lb x.mb x.S q r w h.cp (.int .i64 0) (fun w2 => ∃ A R, CutIs x.S.L q A R ∧ StAt x.sb x.ma x.mp x.lb x.mb { x.S with cl := bump x.S.cl (x.S.s - 1), g := x.S.g + 1, L := A ++ behind (newEl x.S r c2') R } w2) (fun w1 _ hS => ?_)).mono ?_⟩
  · refine (stIns_ok _ _ _ _ _ x.S h.good q r w1 hS (by omega) c2' c3').mono ?_
    rintro e w2 ⟨rfl, A, R, hC, hS2, hF2⟩
    exact ⟨rfl, ⟨A, R, hC, hS2⟩, hF2⟩
  · rintro e w' ⟨rfl, w2, ⟨A, R, hC, hS2⟩, hk, rfl, hF⟩
    refine ⟨rfl, hF.mono (own4_sub x), (ref_ins_ok _ _ h.good h.apart _ _ _ _ _ _ q r _ (ref_after h hF) (by omega) (by omega) (by omega) c2' c3' A R hC).mono ?_⟩
    rintro e w3 ⟨rfl, vl', vL', log', h1, h2, h3, h4⟩
    obtain ⟨g1, g2⟩ := good_ins h.good l1 c3' c2' hC.1
    have hs := sum_bump x.S (x.S.g + 1) (A ++ behind (newEl x.S r c2') R) (x.S.s - 1) (by have := h.good.s1; have := h.good.sn; have := h.good.n8; omega)
    have hl := h.len
    have hlg := h.log
    exact ⟨rfl, after_write h (CpAt.unlock hS2 hk) hF h1 h3 h4 g1 (by rw [hs]; show ((A ++ behind (newEl x.S r c2') R).length : Int) ≤ _; rw [g2]; omega) (by rw [hs]; omega)⟩

theorem pair_del (x : Pr) (p : Int) (w : World) (h : PairAt x w) :
    ∃ code : Int, Calls Tryz.prog 33 #[.pointer (some ⟨x.cb, 0, none⟩), .int .i64 p] w fun e w1 => e = .returned (.int .i64 code) ∧ Fr x.own w w1 ∧
      Calls Tryz.prog 34 #[.pointer (some ⟨x.yb, 0, none⟩), .int .i64 p] w1 fun e2 w2 => e2 = .returned (.int .i64 code) ∧ After x w w2 := by
  obtain ⟨l1, l2⟩ := h.l1000
  have err : ∀ (c : Int), (∀ w1, StAt x.sb x.ma x.mp x.lb x.mb x.S w1 → Calls Tryz.prog 56 #[.pointer (some ⟨x.sb, 0, none⟩), .int .i64 p] w1 fun e w2 => e = .returned (.int .i64 c) ∧ Below w1.heap.size w1 w2) →
      (∀ w1, RefAt x.yb x.S x.vc x.vl (.slice none 0 0) x.vL x.log [] w1 → Calls Tryz.prog 34 #[.pointer (some ⟨x.yb, 0, none⟩), .int .i64 p] w1 fun e w2 => e = .returned (.int .i64 c) ∧ Below w1.heap.size w1 w2) →
      Calls Tryz.prog 33 #[.pointer (some ⟨x.cb, 0, none⟩), .int .i64 p] w fun e w1 => e = .returned (.int .i64 c) ∧ Fr x.own w w1 ∧
        Calls Tryz.prog 34 #[.pointer (some ⟨x.yb, 0, none⟩), .int .i64 p] w1 fun e2 w2 => e2 = .returned (.int .i64 c) ∧ After x w w2 := by
    intro c hin href
    refine (face_del x.cb x.sb x.ma x.mp x.lb x.mb x.S p w h.cp (.int .i64 c) (fun w2 => StAt x.sb x.ma x.mp x.lb x.mb x.S w2) (fun w1 _ hS => ?_)).mono ?_
    · refine (hin w1 hS).mono ?_
      rintro e w2 ⟨rfl, hB⟩
      exact ⟨rfl, hS.below hB, Fr.ofBelow hB⟩
    · rintro e w' ⟨rfl, w2, hS2, hk, rfl, hF⟩
      refine ⟨rfl, hF.mono (own4_sub x), (href _ (ref_after h hF)).mono ?_⟩
      rintro e w3 ⟨rfl, hB⟩
      exact ⟨rfl, after_same h (CpAt.unlock hS2 hk) hF hB⟩
  by_cases c1 : p < 0 ∨ ((vis x.S.L).length : Int) ≤ p
  · exact ⟨3, err 3 (fun w1 hS => stDel_place _ _ _ _ _ x.S p w1 hS h.good.len c1) (fun w1 hr => ref_del_place _ _ _ _ _ _ _ _ p w1 hr (by omega) c1)⟩
  by_cases c3 : decide (100 ≤ x.S.cl (x.S.s - 1) ∨ 1099511627776 ≤ x.S.g) = true
  · exact ⟨5, err 5 (fun w1 hS => stDel_full _ _ _ _ _ x.S h.good p w1 hS (by omega) (by omega) c3) (fun w1 hr => ref_del_full _ _ h.good _ _ _ _ _ _ p w1 hr (by omega) (by omega) (by omega) c3)⟩
  have c3' : decide (100 ≤ x.S.cl (x.S.s - 1) ∨ 1099511627776 ≤ x.S.g) = false := by simpa using c3
  refine ⟨0, (face_del x.cb x.sb x.ma x.mp x.lb x.mb x.S p w h.cp (.int .i64 0) (fun w2 => ∃ A z R, x.S.L = A ++ z :: R ∧ (vis A).length = p.toNat ∧ z.d = false ∧ StAt x.sb x.ma x.mp x.lb x.mb { x.S with cl := bump x.S.cl (x.S.s - 1), g := x.S.g + 1, L := A ++ gone z :: R } w2) (fun w1 _ hS => ?_)).mono ?_⟩
  · refine (stDel_ok _ _ _ _ _ x.S h.good p w1 hS (by omega) (by omega) c3').mono ?_
    rintro e w2 ⟨rfl, A, z, R, hL, hA, hd, hS2, hF2⟩
    exact ⟨rfl, ⟨A, z, R, hL, hA, hd, hS2⟩, hF2⟩
  · rintro e w' ⟨rfl, w2, ⟨A, z, R, hL, hA, hd, hS2⟩, hk, rfl, hF⟩
    refine ⟨rfl, hF.mono (own4_sub x), (ref_del_ok _ _ h.good h.apart _ _ _ _ _ _ p _ (ref_after h hF) (by omega) (by omega) (by omega) c3' A R z hL hA hd).mono ?_⟩
    rintro e w3 ⟨rfl, vl', vL', log', h1, h2, h3, h4⟩
    obtain ⟨g1, g2⟩ := good_del h.good l1 c3' hL
    have hs := sum_bump x.S (x.S.g + 1) (A ++ gone z :: R) (x.S.s - 1) (by have := h.good.s1; have := h.good.sn; have := h.good.n8; omega)
    have hl := h.len
    have hlg := h.log
    exact ⟨rfl, after_write h (CpAt.unlock hS2 hk) hF h1 h3 h4 g1 (by rw [hs]; show ((A ++ gone z :: R).length : Int) ≤ _; rw [g2]; omega) (by rw [hs]; omega)⟩

end Go.Proofs.YtdknckokdpaadaaGreat
