import Derived.Test.YtachmkhbbbmioaaGreatCuFX
import Derived.Test.YtachmkhbbbmioaaGreatRefOX
import Derived.BigQuiet
namespace Go.Proofs.YtachmkhbbbmioaaGreat
open Go.RowKit Go.Shelf

theorem rdy_iff {S : CS} (hI : Inv S) {x : OpR} (h8 : Ok8 S.n x) : Rdy S (x.o.toNat - 1) x.num x.c x.kind x.tc x.tk x.q ↔ RdyS S x := by
  have ho := h8.o
  have hc := h8.c
  have hn8 := hI.good.n8
  have eo : ((x.o.toNat - 1 : Nat) : Int) + 1 = x.o := by omega
  unfold Rdy RdyS
  rw [eo]
  refine and_congr_right fun _ => and_congr ?_ (and_congr ?_ ?_)
  · constructor
    · intro h i hi
      by_cases q : i < S.n
      · exact h i q
      · rw [h8.q0 i (by omega)]; exact (hI.good.cl i hi).1
    · intro h i hi; exact h i (by omega)
  · rw [hasM_iff, findI_has]
    rcases h8.tgt with t | t
    · exact ⟨fun _ => .inl ⟨t.1, t.2.1⟩, fun _ => .inl t.1⟩
    · constructor
      · rintro (q | q)
        · omega
        · exact .inr q
      · rintro (q | q)
        · omega
        · exact .inr q
  · have e : (findI x.c x.o S.L 0 < 0) ↔ hasM x.c x.o S.L = false := by
      rw [hasM_false]
      constructor
      · intro q
        refine ⟨fun z => by omega, fun y hy z => ?_⟩
        have := findI_has.2 ⟨y, hy, z⟩
        omega
      · intro q
        rcases Int.lt_or_le (findI x.c x.o S.L 0) 0 with z | z
        · exact z
        · obtain ⟨y, hy, e⟩ := findI_has.1 z
          exact (q.2 y hy e).elim
    rw [e]

/-- The document's ready, at an operation whose bounds are known. -/
theorem refReady_op (yb : Nat) (S : CS) (hI : Inv S) (vc vl vw vL : Value) (log wt : List (List Value)) (y : OpR) (h8 : Ok8 S.n y) (va : Option Addr) (vp : Nat) (w : World) (h : RefAt yb S vc vl vw vL log wt w) (hk : RowAt 3 1 (.slice va S.n vp) (ckRowQ S.n y.q) w) :
    Calls Tryz.prog 101 #[.pointer (some ⟨yb, 0, none⟩), .agg #[.int .i64 y.o, .int .i64 y.num, .int .i64 y.c, .int .i64 y.kind, .int .i64 y.tc, .int .i64 y.tk, .int .i64 y.r, .slice va S.n vp]] w fun e w' => ∃ b, e = .returned (.bool b) ∧ w.grownBy w' none ∧ (b = true ↔ RdyS S y) := by
  have ho := h8.o
  have hn8 := hI.good.n8
  have hs := sum_le hI.good
  have hlen := hI.len
  rw [ckRowQ_int] at hk
  have H := ref_ready yb S vc vl vw vL log wt (fun i hi => hI.good.cl i (by omega)) hn8 (by omega) (y.o.toNat - 1) (by omega) y.num y.c y.kind y.tc y.tk y.r y.q va vp w h hk
  have e : ((y.o.toNat - 1 : Nat) : Int) + 1 = y.o := by omega
  rw [e] at H
  refine H.mono ?_
  rintro e w' ⟨b, rfl, g, hb⟩
  exact ⟨b, rfl, g, hb.trans (rdy_iff hI h8)⟩

/-- Which of the first i is the next. -/
def AtR (S : CS) (i : Nat) (at' : Int) : Prop :=
  (at' = -1 ∧ ∀ j z, j < i → S.wt[j]? = some z → ¬ RdyS S z) ∨ ∃ (a : Nat) (y : OpR), at' = a ∧ a < i ∧ S.wt[a]? = some y ∧ RdyS S y ∧ ∀ j z, j < i → S.wt[j]? = some z → RdyS S z → y.o ≤ z.o

def NextR (S : CS) (w : World) (e : Ending) (w' : World) : Prop := ∃ k : Int, e = .returned (.int .i64 k) ∧ w.grownBy w' none ∧ ((k = -1 ∧ NoNext S) ∨ ∃ (j : Nat) (y : OpR), k = j ∧ S.wt[j]? = some y ∧ IsNext S y)

theorem atR_skip {S : CS} {i : Nat} {k : Int} {x : OpR} (h : AtR S i k) (hx : S.wt[i]? = some x) (hn : ¬ RdyS S x) : AtR S (i + 1) k := by
  rcases h with ⟨e, h⟩ | ⟨a, y, e, ha, hy, hr, h⟩
  · refine .inl ⟨e, fun j z hj hz => ?_⟩
    by_cases q : j = i
    · subst q; rw [hx] at hz; cases hz; exact hn
    · exact h j z (by omega) hz
  · refine .inr ⟨a, y, e, by omega, hy, hr, fun j z hj hz hrz => ?_⟩
    by_cases q : j = i
    · subst q; rw [hx] at hz; cases hz; exact (hn hrz).elim
    · exact h j z (by omega) hz hrz
theorem atR_first {S : CS} {i : Nat} {x : OpR} (h : ∀ j z, j < i → S.wt[j]? = some z → ¬ RdyS S z) (hx : S.wt[i]? = some x) (hr : RdyS S x) : AtR S (i + 1) i := by
  refine .inr ⟨i, x, rfl, by omega, hx, hr, fun j z hj hz hrz => ?_⟩
  by_cases q : j = i
  · subst q; rw [hx] at hz; cases hz; exact Int.le_refl _
  · exact (h j z (by omega) hz hrz).elim
theorem atR_less {S : CS} {i : Nat} {x y : OpR} (hl : x.o < y.o) (h : ∀ j z, j < i → S.wt[j]? = some z → RdyS S z → y.o ≤ z.o) (hx : S.wt[i]? = some x) (hr : RdyS S x) : AtR S (i + 1) i := by
  refine .inr ⟨i, x, rfl, by omega, hx, hr, fun j z hj hz hrz => ?_⟩
  by_cases q : j = i
  · subst q; rw [hx] at hz; cases hz; exact Int.le_refl _
  · have := h j z (by omega) hz hrz; omega
theorem atR_more {S : CS} {i a : Nat} {x y : OpR} (ha : a < i) (hy : S.wt[a]? = some y) (hry : RdyS S y) (hl : y.o < x.o) (h : ∀ j z, j < i → S.wt[j]? = some z → RdyS S z → y.o ≤ z.o) (hx : S.wt[i]? = some x) : AtR S (i + 1) a := by
  refine .inr ⟨a, y, rfl, by omega, hy, hry, fun j z hj hz hrz => ?_⟩
  by_cases q : j = i
  · subst q; rw [hx] at hz; cases hz; omega
  · exact h j z (by omega) hz hrz
theorem atR_end {S : CS} {k : Int} (h : AtR S S.wt.length k) : (k = -1 ∧ NoNext S) ∨ ∃ (j : Nat) (y : OpR), k = j ∧ S.wt[j]? = some y ∧ IsNext S y := by
  rcases h with ⟨e, h⟩ | ⟨a, y, e, ha, hy, hr, h⟩
  · refine .inl ⟨e, fun z hz => ?_⟩
    obtain ⟨j, hj⟩ := List.mem_iff_getElem?.1 hz
    exact h j z (List.getElem?_eq_some_iff.1 hj).1 hj
  · refine .inr ⟨a, y, e, hy, List.mem_of_getElem? hy, hr, fun z hz hrz => ?_⟩
    obtain ⟨j, hj⟩ := List.mem_iff_getElem?.1 hz
    exact h j z (List.getElem?_eq_some_iff.1 hj).1 hj hrz

/-- Two that are ready have not one origin. -/
theorem next_apart {S : CS} (hw : WtOk S) {i a : Nat} {x y : OpR} (hx : S.wt[i]? = some x) (hy : S.wt[a]? = some y) (ha : a < i) (h1 : RdyS S x) (h2 : RdyS S y) : x.o ≠ y.o := by
  intro e
  have hn : x.num = y.num := by rw [h1.1, h2.1, e]
  obtain ⟨hi, hxi⟩ := List.getElem?_eq_some_iff.1 hx
  obtain ⟨hj, hyj⟩ := List.getElem?_eq_some_iff.1 hy
  have := List.pairwise_iff_getElem.1 hw.one a i hj hi ha
  rw [hxi, hyj] at this
  exact this ⟨e.symm, hn.symm⟩

set_option maxRecDepth 100000 in
set_option maxHeartbeats 8000000 in
theorem ref_next (yb : Nat) (S : CS) (hI : Inv S) (vc vl vw vL : Value) (log wr0 : List (List Value)) (ks : List Nat) (w : World) (h : RefAt yb S vc vl vw vL log wr0 w) (hw : WtRows S.n ks wr0 S.wt w) :
    Calls Tryz.prog 103 #[.pointer (some ⟨yb, 0, none⟩)] w fun e w' => NextR S w e w' := by
  obtain ⟨aw, cw, rfl, -⟩ := h.wt.value
  have hl16 := hI.wo.len
  rw [hw.len] at h
  go_enter Tryz.func103, Tryz.ntmps103
  go_wp2_with fail
  go_loopg [3, 4] S.wt.length (fun gk s3 s4 wr => ∃ (i : Nat) (k : Int), s4 = .int .i64 i ∧ s3 = .int .i64 k ∧ i ≤ S.wt.length ∧ gk = S.wt.length - i ∧ w.grownBy wr none ∧ Hid (AtR S i k))
  case atStart => exact ⟨0, -1, rfl, rfl, by omega, rfl, grown_refl _, hide (.inl ⟨rfl, fun j z hj => by omega⟩)⟩
  case round =>
    obtain ⟨i, k, rfl, rfl, hil, hgk, hG, HA⟩ := hrel
    have hr := h.grown hG
    have e5 : wr.cell? ⟨yb, 5, none⟩ = some (.slice aw S.wt.length cw) := cell_blk hr.cp 5
    by_cases hlt : i < S.wt.length
    · have hli : (i : Int) < (S.wt.length : Int) := by omega
      obtain ⟨y, hy⟩ : ∃ y, S.wt[i]? = some y := ⟨S.wt[i], by simp [hlt]⟩
      obtain ⟨vk, hk1, hk2, hk3⟩ := hw.row i y hy
      obtain ⟨va, vp, rfl, -⟩ := hk2.value
      have ekl : (ckRowQ S.n y.q).length = S.n := by simp [ckRowQ]
      rw [ekl] at hk1 hk2
      obtain ⟨gw, cw', cur, hv', -, hb, hc⟩ := hr.wt.cell (i := i) hk1
      rw [hw.len] at hv'
      cases hv'
      have r0 : wr.cell? ⟨gw, i * 8, none⟩ = some (.int .i64 y.o) := (cell_blk hb _).trans (hc 0 _ rfl)
      have r1 : wr.cell? ⟨gw, i * 8 + 1, none⟩ = some (.int .i64 y.num) := (cell_blk hb _).trans (hc 1 _ rfl)
      have r2 : wr.cell? ⟨gw, i * 8 + 2, none⟩ = some (.int .i64 y.c) := (cell_blk hb _).trans (hc 2 _ rfl)
      have r3 : wr.cell? ⟨gw, i * 8 + 3, none⟩ = some (.int .i64 y.kind) := (cell_blk hb _).trans (hc 3 _ rfl)
      have r4 : wr.cell? ⟨gw, i * 8 + 4, none⟩ = some (.int .i64 y.tc) := (cell_blk hb _).trans (hc 4 _ rfl)
      have r5 : wr.cell? ⟨gw, i * 8 + 5, none⟩ = some (.int .i64 y.tk) := (cell_blk hb _).trans (hc 5 _ rfl)
      have r6 : wr.cell? ⟨gw, i * 8 + 6, none⟩ = some (.int .i64 y.r) := (cell_blk hb _).trans (hc 6 _ rfl)
      have r7 : wr.cell? ⟨gw, i * 8 + 7, none⟩ = some (.slice va S.n vp) := (cell_blk hb _).trans (hc 7 _ rfl)
      have h8 := hI.wo.ok y (List.mem_of_getElem? hy)
      have g1 : wr.grownBy (wr.alloc (.cells #[.int .i64 y.o, .int .i64 y.num, .int .i64 y.c, .int .i64 y.kind, .int .i64 y.tc, .int .i64 y.tk, .int .i64 y.r, .slice va S.n vp] 88)) none := grown_alloc (grown_refl _) _
      have kb : (wr.alloc (.cells #[.int .i64 y.o, .int .i64 y.num, .int .i64 y.c, .int .i64 y.kind, .int .i64 y.tc, .int .i64 y.tk, .int .i64 y.r, .slice va S.n vp] 88)).heap[wr.heap.size]? = some (.cells #[.int .i64 y.o, .int .i64 y.num, .int .i64 y.c, .int .i64 y.kind, .int .i64 y.tc, .int .i64 y.tk, .int .i64 y.r, .slice va S.n vp] 88) := by rw [heap_alloc_at]; simp
      have HR := hide (refReady_op yb S hI vc vl _ vL log wr0 y h8 va vp (wr.alloc (.cells #[.int .i64 y.o, .int .i64 y.num, .int .i64 y.c, .int .i64 y.kind, .int .i64 y.tc, .int .i64 y.tk, .int .i64 y.r, .slice va S.n vp] 88)) (hr.grown g1) ((hk2.grown hG).grown g1))
      have HY := hide hy
      clear hc hb hk1 hk2 hk3 h8 hy
      go_wp2_with fail
      generalize (wr.alloc (.cells #[.int .i64 y.o, .int .i64 y.num, .int .i64 y.c, .int .i64 y.kind, .int .i64 y.tc, .int .i64 y.tk, .int .i64 y.r, .slice va S.n vp] 88)) = w1 at g1 kb HR ⊢
      generalize wr.heap.size = bb at kb ⊢
      refine HR.out.mono ?_
      rintro e w3 ⟨b, rfl, g3, hb⟩
      have hG3 := grown_trans hG (grown_trans g1 g3)
      have k3 := (g3.block _ (lt_of_heap kb) (by simp)).trans kb
      have h3 := h.grown hG3
      have d0 : w3.cell? ⟨bb, 0, none⟩ = some (.int .i64 y.o) := cell_blk k3 0
      have d1 : w3.cell? ⟨bb, 1, none⟩ = some (.int .i64 y.num) := cell_blk k3 1
      have e53 : w3.cell? ⟨yb, 5, none⟩ = some (.slice (some ⟨gw, 0, none⟩) S.wt.length cw) := cell_blk h3.cp 5
      have hwi : IntKind.i64.wrap ((i : Int) + 1) = (i : Int) + 1 := by rw [IntKind.wrap_i64]; omega
      clear HR kb g1 g3 r0 r1 r2 r3 r4 r5 r6 r7 e5
      cases b with
      | false =>
        have HN : Hid (AtR S (i + 1) k) := hide (atR_skip HA.out HY.out (fun q => absurd (hb.2 q) (by simp)))
        clear hb
        go_wp2_with fail
        go_quiet (fail)
        go_wp2_with fail
        go_roundg (S.wt.length - (i + 1))
        case measure => omega
        case rel => exact ⟨i + 1, k, by go_num, rfl, by omega, rfl, grown_trans hG3 (grown_drewN _ _), HN⟩
      | true =>
        have hrx := hb.1 rfl
        clear hb
        rcases HA.out with ⟨hk, hno⟩ | ⟨a, x, hk, ha, hx, hrxx, hle⟩
        · subst hk
          have HN : Hid (AtR S (i + 1) i) := hide (atR_first hno HY.out hrx)
          clear hno hrx
          go_wp2_with fail
          go_quiet (fail)
          go_wp2_with fail
          go_roundg (S.wt.length - (i + 1))
          case measure => omega
          case rel => exact ⟨i + 1, i, by go_num, rfl, by omega, rfl, grown_trans hG3 (grown_drewN _ _), HN⟩
        · subst hk
          have hne := next_apart hI.wo HY.out hx ha hrx hrxx
          obtain ⟨vk, hk1, -, -⟩ := hw.row a x hx
          obtain ⟨gw', cw', cur, hv', -, hb, hc⟩ := h3.wt.cell (i := a) hk1
          rw [hw.len] at hv'
          cases hv'
          have x0 : w3.cell? ⟨gw, a * 8, none⟩ = some (.int .i64 x.o) := (cell_blk hb _).trans (hc 0 _ rfl)
          have x1 : w3.cell? ⟨gw, a * 8 + 1, none⟩ = some (.int .i64 x.num) := (cell_blk hb _).trans (hc 1 _ rfl)
          have ha0 : decide ((a : Int) < 0) = false := decide_eq_false (by omega)
          have hal : (a : Int) < (S.wt.length : Int) := by omega
          clear hc hb hk1
          by_cases hlo : y.o < x.o
          · have HN : Hid (AtR S (i + 1) i) := hide (atR_less hlo hle HY.out hrx)
            clear hle hrx hrxx hx hne
            go_wp2_with fail
            go_quiet (fail)
            go_wp2_with fail
            go_roundg (S.wt.length - (i + 1))
            case measure => omega
            case rel => exact ⟨i + 1, i, by go_num, rfl, by omega, rfl, grown_trans hG3 (grown_drewN _ _), HN⟩
          · have HN : Hid (AtR S (i + 1) a) := hide (atR_more ha hx hrxx (by omega) hle HY.out)
            have hlo' : decide (y.o < x.o) = false := by simpa using hlo
            have heq : (y.o == x.o) = false := by simpa using hne
            clear hle hrx hrxx hx hne
            go_wp2_with fail
            go_quiet (fail)
            go_wp2_with fail
            go_roundg (S.wt.length - (i + 1))
            case measure => omega
            case rel => exact ⟨i + 1, a, by go_num, rfl, by omega, rfl, grown_trans hG3 (grown_drewN _ _), HN⟩
    · obtain rfl : i = S.wt.length := by omega
      have HN := hide (atR_end HA.out)
      go_wp2_with fail
      exact bodyPost_ret (v := .int .i64 k) (by simp [results, Tryz.results103, go_sem]) rfl ⟨k, rfl, hG, HN.out⟩

end Go.Proofs.YtachmkhbbbmioaaGreat

namespace Go.Proofs.YtachmkhbbbmioaaGreat
open Go.RowKit Go.Shelf

/-- APPEND to a list that has no room: the new one lies in new memory. -/
theorem wpList_full {w : World} {ops : Array Oper} {rest : List Oper} {o : Oper} {a : Act} {Q : Exit → Act → World → Prop} {t e : TypeId} {k bytes : Nat} {z : Value} (ht : Tryz.prog.underlying t = some (.slice e))
    (hinfo : (Tryz.prog.info? e).map (fun i => (i.zero, i.size, i.bytes)) = some (some z, k, bytes)) (hzs : z.cells.size = k) (hgd : o.guard = none) (s x : Operand)
    (ho : o.op = .call { callee := .builtin .append, args := #[s, x], argTypes := #[t, t] }) (g n cap : Nat) (xs : List (List Value)) (hs : a.eval s = .slice (some ⟨g, 0, none⟩) n cap) (hR : RowAt e k (.slice (some ⟨g, 0, none⟩) n cap) xs w)
    (ad : Addr) (m c : Nat) (ys : List (List Value)) (hx : a.eval x = .slice (some ad) m c) (hm : ys.length = m) (hc : ∀ (j : Nat) (y : Value), ys.flatten[j]? = some y → w.cell? (ad.add j) = some y) (hyk : ∀ y ∈ ys, y.length = k) (hroom : cap < n + m) (h63 : n + m ≤ maxLen) (hbytes : (n + m) * bytes ≤ 140737488355328)
    (h : ∀ c' w', RowAt e k (.slice (some ⟨w.heap.size, 0, none⟩) (n + m) c') (xs ++ ys) w' → w.grownBy w' none → w.heap.size < w'.heap.size → wpList Tryz.prog ops Q rest (a.put o.dst (.slice (some ⟨w.heap.size, 0, none⟩) (n + m) c')) w') : wpList Tryz.prog ops Q (o :: rest) a w := by
  obtain ⟨i, hi, hz0, hz1, hz2⟩ := info_parts hinfo
  subst hz1 hz2
  have hn : xs.length = n := by
    rcases hR.1.2 with ⟨h1, -⟩ | ⟨g', cap', cur, h1, -⟩
    · cases h1
    · simp only [Value.slice.injEq] at h1; exact h1.2.1.symm
  have hown := hR.1
  rw [hn] at hown
  have hl : ys.flatten.length = m * i.size := by rw [flat_len hyk, hm]
  have hlen : (xs.flatten ++ ys.flatten).length = (n + m) * i.size := by rw [List.length_append, hown.1, hl, Nat.add_mul]
  have holds : ∀ j u, xs.flatten[j]? = some u → w.cell? ((⟨g, 0, none⟩ : Addr).add j) = some u := hown.cells (g := g) rfl
  have hall : ∀ y ∈ xs ++ ys, y.length = i.size := by
    intro y hy
    rcases List.mem_append.1 hy with hy | hy
    · exact hR.2 y hy
    · exact hyk y hy
  have hsmall : n + m ≤ 9223372036854775807 := by simp only [maxLen] at h63; omega
  have hr := run_append_grow (P := Tryz.prog) w t o.type e i z ht hi hz0 ⟨g, 0, none⟩ n cap xs.flatten hown.1 holds ad m c ys.flatten hl hc (by omega) (by omega) (growslice_fits (by omega) hbytes)
  refine wpList_plain hgd fun K hK => ?_
  unfold Oper.wp execOp
  simp only [ho, resolve, invoke, builtin, Sem.run_bind, Sem.run_pure, Result.andThen_ok, List.map_toArray, List.map_cons, List.map_nil, hs, hx, hr]
  refine hK _ _ (h (grownCap w (n + m) cap e) _ ⟨⟨?_, .inr ⟨w.heap.size, grownCap w (n + m) cap e, _, ?_, Nat.zero_le _, heap_alloc_new w.drew _, ?_, grownCap_le_maxLen w (n + m) cap e h63, ?_, ?_⟩⟩, ?_⟩ ⟨rfl, rfl, rfl, by simp, fun k hk _ => (Below.heap_alloc w.drew _ _ hk)⟩ (by simp))
  · exact flat_len hall
  · rw [List.length_append, hn, hm]
  · rw [List.length_append, hn, hm]; exact grownCap_ge w (n + m) cap e
  · have hge := grownCap_ge w (n + m) cap e
    generalize grownCap w (n + m) cap e = G at hge ⊢
    simp only [Array.size_append, List.size_toArray, size_zeroCells, hzs, hown.1, hl, ← Nat.add_mul]
    rw [Nat.add_sub_of_le hge]
  · simp only [Array.toList_append, List.append_assoc, List.flatten_append, List.length_append, hn, hm]
    rw [← List.append_assoc, ← hlen]
    exact List.take_left
  · exact hall

end Go.Proofs.YtachmkhbbbmioaaGreat

namespace Go.Proofs.YtachmkhbbbmioaaGreat
open Go.RowKit Go.Shelf

/-- The document's copy, with the clocks of its operations. -/
structure RB (yb : Nat) (S : CS) (vc vl vw vL : Value) (log wr : List (List Value)) (ks : List Nat) (w : World) : Prop where
  rf : RefAt yb S vc vl vw vL log wr w
  lg : LogAt S.n ks log S.ops w
  wl : WtRows S.n ks wr S.wt w
  kd : ∀ k ∈ ks, vc.ownBlock ≠ some k

theorem RB.grown {yb : Nat} {S : CS} {vc vl vw vL : Value} {log wr : List (List Value)} {ks : List Nat} {w w' : World} (h : RB yb S vc vl vw vL log wr ks w) (g : w.grownBy w' none) : RB yb S vc vl vw vL log wr ks w' :=
  ⟨h.rf.grown g, h.lg.kept (fun k hk => g.block k (h.lg.lt k hk) (by simp)), h.wl.kept (fun k hk => g.block k (h.lg.lt k hk) (by simp)), h.kd⟩

/-- A clock of the operations lies as it did behind what turns the copy alone. -/
theorem RB.ksBlk {yb : Nat} {S : CS} {vc vl vw vL : Value} {log wr : List (List Value)} {ks : List Nat} {w w' : World} (h : RB yb S vc vl vw vL log wr ks w) (hF : Fr (refOwn yb vc vl vw vL) w w') : ∀ k ∈ ks, w'.heap[k]? = w.heap[k]? := fun k hk => by
  obtain ⟨c, hc⟩ := h.lg.blk k hk
  exact hF.block k (lt_of_heap hc) (sep_kr h.rf hc (h.kd k hk))

theorem refOwn_from3 {yb : Nat} {vc vl vw vL vl' vw' vL' : Value} {n : Nat} (h1 : ∀ g, vl'.ownBlock = some g → vl.ownBlock = some g ∨ n ≤ g) (h2 : ∀ g, vw'.ownBlock = some g → vw.ownBlock = some g ∨ n ≤ g) (h3 : ∀ g, vL'.ownBlock = some g → vL.ownBlock = some g ∨ n ≤ g) : OwnFrom (refOwn yb vc vl vw vL) (refOwn yb vc vl' vw' vL') n := by
  intro k hk
  simp only [refOwn, List.mem_cons, List.mem_append, Option.mem_toList] at hk ⊢
  rcases hk with rfl | hk | hk | hk | hk
  · simp
  · simp [hk]
  · rcases h1 k hk with q | q
    · simp [q]
    · exact .inr q
  · rcases h2 k hk with q | q
    · simp [q]
    · exact .inr q
  · rcases h3 k hk with q | q
    · simp [q]
    · exact .inr q

theorem OwnFrom.trans {a b c : List Nat} {n m : Nat} (h1 : OwnFrom a b n) (h2 : OwnFrom b c m) (hm : n ≤ m) : OwnFrom a c n := fun k hk => by
  rcases h2 k hk with q | q
  · exact h1 k q
  · exact .inr (Nat.le_trans hm q)

theorem Fr.own {a b : List Nat} {w w1 w2 : World} (h1 : Fr a w w1) (ho : OwnFrom a b w.heap.size) (h2 : Fr b w1 w2) : Fr a w w2 :=
  ⟨h2.os.trans h1.os, h2.tape.trans h1.tape, h2.output.trans h1.output, Nat.le_trans h1.size h2.size, fun k hk hn => (h2.block k (Nat.lt_of_lt_of_le hk h1.size) (fun q => by
    rcases ho k q with z | z
    · exact hn z
    · omega)).trans (h1.block k hk hn)⟩

/-- The log by one longer. -/
theorem logAt_push {n : Nat} {ks : List Nat} {log : List (List Value)} {ops : List OpR} {w : World} (h : LogAt n ks log ops w) {x : OpR} {vk : Value} (hk : RowAt 3 1 vk (ckRowQ n x.q) w) (hko : ∀ g, vk.ownBlock = some g → g ∈ ks) : LogAt n ks (log ++ [opCells x vk]) (x :: ops) w := by
  refine ⟨by simp [h.len], fun j y hj => ?_, h.blk⟩
  rw [List.reverse_cons, List.getElem?_append] at hj
  split at hj
  · rename_i hlt
    obtain ⟨v, h1, h2, h3⟩ := h.row j y hj
    exact ⟨v, by rw [List.getElem?_append_left (by rw [h.len]; simpa using hlt)]; exact h1, h2, h3⟩
  · rename_i hlt
    have e0 : j = ops.reverse.length ∧ y = x := by
      rcases Nat.eq_zero_or_pos (j - ops.reverse.length) with e | e
      · rw [e] at hj; exact ⟨by omega, by simpa using hj.symm⟩
      · rw [List.getElem?_eq_none (by show 1 ≤ _; omega)] at hj; cases hj
    obtain ⟨e1, rfl⟩ := e0
    exact ⟨vk, by rw [List.getElem?_append_right (by rw [h.len, e1]; simp), e1, h.len]; simp, hk, hko⟩

/-- What waits, by one longer. -/
theorem wtRows_push {n : Nat} {ks : List Nat} {wr : List (List Value)} {wt : List OpR} {w : World} (h : WtRows n ks wr wt w) {x : OpR} {vk : Value} (hk : RowAt 3 1 vk (ckRowQ n x.q) w) (hko : ∀ g, vk.ownBlock = some g → g ∈ ks) : WtRows n ks (wr ++ [opCells x vk]) (wt ++ [x]) w := by
  refine ⟨by simp [h.len], fun j y hj => ?_⟩
  rw [List.getElem?_append] at hj
  split at hj
  · rename_i hlt
    obtain ⟨v, h1, h2, h3⟩ := h.row j y hj
    exact ⟨v, by rw [List.getElem?_append_left (by rw [h.len]; exact hlt)]; exact h1, h2, h3⟩
  · rename_i hlt
    have e0 : j = wt.length ∧ y = x := by
      rcases Nat.eq_zero_or_pos (j - wt.length) with e | e
      · rw [e] at hj; exact ⟨by omega, by simpa using hj.symm⟩
      · rw [List.getElem?_eq_none (by show 1 ≤ _; omega)] at hj; cases hj
    obtain ⟨e1, rfl⟩ := e0
    exact ⟨vk, by rw [List.getElem?_append_right (by rw [h.len, e1]; exact Nat.le_refl _), e1, h.len]; simp, hk, hko⟩

theorem rem_idx {wt : List OpR} (h : wt.Pairwise (fun x y => ¬ (x.o = y.o ∧ x.num = y.num))) {j : Nat} {x : OpR} (hx : wt[j]? = some x) : remW x wt = wt.take j ++ wt.drop (j + 1) := by
  obtain ⟨hj, rfl⟩ := List.getElem?_eq_some_iff.1 hx
  have e : wt = wt.take j ++ wt[j] :: wt.drop (j + 1) := by rw [← List.drop_eq_getElem_cons hj, List.take_append_drop]
  generalize hx : wt[j] = x at e ⊢
  conv => lhs; rw [e]
  exact remW_cut (e ▸ h)

theorem wtRows_rem {n : Nat} {ks : List Nat} {wr : List (List Value)} {wt : List OpR} {w : World} (h : WtRows n ks wr wt w) (j : Nat) : WtRows n ks (wr.take j ++ wr.drop (j + 1)) (wt.take j ++ wt.drop (j + 1)) w := by
  refine ⟨by simp [h.len], fun i y hi => ?_⟩
  have hl := h.len
  rw [List.getElem?_append] at hi ⊢
  rw [List.length_take] at hi ⊢
  rw [hl]
  split at hi
  · rename_i hlt
    rw [List.getElem?_take, if_pos (by omega)] at hi
    obtain ⟨v, h1, h2, h3⟩ := h.row i y hi
    refine ⟨v, ?_, h2, h3⟩
    rw [if_pos hlt, List.getElem?_take, if_pos (by omega)]
    exact h1
  · rename_i hlt
    rw [List.getElem?_drop] at hi
    obtain ⟨v, h1, h2, h3⟩ := h.row _ y hi
    refine ⟨v, ?_, h2, h3⟩
    rw [if_neg hlt, List.getElem?_drop]
    exact h1

theorem WtRows.one {n : Nat} {ks : List Nat} {wr : List (List Value)} {wt : List OpR} {w : World} (h : WtRows n ks wr wt w) : ∀ y ∈ wr, ∀ c ∈ y, c.oneCell' = true := by
  intro y hy c hc
  obtain ⟨j, hj⟩ := List.mem_iff_getElem?.1 hy
  have hlt := (List.getElem?_eq_some_iff.1 hj).1
  rw [h.len] at hlt
  obtain ⟨vk, h1, h2, -⟩ := h.row j wt[j] (by simp [hlt])
  rw [hj] at h1
  cases h1
  obtain ⟨a, cc, rfl, -⟩ := h2.value
  simp only [opCells, List.mem_cons, List.not_mem_nil, or_false] at hc
  rcases hc with rfl | rfl | rfl | rfl | rfl | rfl | rfl | rfl <;> rfl

/-- Other rows wait. -/
theorem RefAt.waited {yb : Nat} {S : CS} {vc vl vw vL vw' : Value} {log wt wt' : List (List Value)} {w : World} (h : RefAt yb S vc vl vw vL log wt w) (hl : RowAt 88 8 vw' wt' w) (ha : ∀ g, vl.ownBlock = some g → vw'.ownBlock ≠ some g) :
    RefAt yb S vc vl vw' vL log wt' (w.setCell ⟨yb, 5, none⟩ vw') := by
  have e : ∀ k, k ≠ yb → (w.setCell ⟨yb, 5, none⟩ vw').heap[k]? = w.heap[k]? := fun k hk => Below.heap_setCell _ _ _ _ hk
  obtain ⟨h1, h2, h3, h4⟩ := h.rows e
  exact ⟨(set_blk h.cp).trans rfl, h1, h2, hl.kept (fun g hg => e g (fun q => hl.neBlk h.cp (by decide) (q ▸ hg))), h4, ha⟩

theorem RefAt.sameWt {yb : Nat} {S : CS} {vc vl vw vL : Value} {log wr : List (List Value)} {w : World} (h : RefAt yb S vc vl vw vL log wr w) (wt : List OpR) : RefAt yb { S with wt := wt } vc vl vw vL log wr w := ⟨h.cp, h.ck, h.lg, h.wt, h.ln, h.ap⟩

/-- What comes of a call that turns the document's copy. -/
def RbR (yb : Nat) (S' : CS) (vc vl vw vL : Value) (ks : List Nat) (w : World) (e : Ending) (w' : World) : Prop :=
  e = .returned (.tuple #[]) ∧ ∃ vl' vw' vL' log' wr', RB yb S' vc vl' vw' vL' log' wr' ks w' ∧ Fr (refOwn yb vc vl vw vL) w w' ∧ OwnFrom (refOwn yb vc vl vw vL) (refOwn yb vc vl' vw' vL') w.heap.size

/-- The document's apply, of any operation that is ready. -/
theorem ref_applyB (yb : Nat) (S : CS) (hI : Inv S) (vc vl vw vL : Value) (log wr : List (List Value)) (ks : List Nat) (y : OpR) (h8 : Ok8 S.n y) (hr : RdyS S y) (va : Option Addr) (vp : Nat) (w : World) (h : RB yb S vc vl vw vL log wr ks w)
    (hk : RowAt 3 1 (.slice va S.n vp) (ckRowQ S.n y.q) w) (hko : ∀ g, (Value.slice va S.n vp).ownBlock = some g → g ∈ ks) :
    Calls Tryz.prog 102 #[.pointer (some ⟨yb, 0, none⟩), .agg #[.int .i64 y.o, .int .i64 y.num, .int .i64 y.c, .int .i64 y.kind, .int .i64 y.tc, .int .i64 y.tk, .int .i64 y.r, .slice va S.n vp]] w fun e w' => RbR yb (applyS S y) vc vl vw vL ks w e w' := by
  have ho := h8.o
  have hn8 := hI.good.n8
  have hcl := hI.good.cl (y.o.toNat - 1) (by omega)
  have h0 : ∀ z ∈ S.L, 0 < z.c := fun z hz => (hI.good.mark z hz).1
  have eo : ((y.o.toNat : Nat) : Int) = y.o := by omega
  have hs := sum_le hI.good
  have hlen := hI.len
  have hlops := hI.lops
  have hll := h.lg.len
  have H := ref_apply yb S vc vl vw vL log wr y.o.toNat y.num y.c y.kind y.tc y.tk y.r va S.n vp w h.rf (by omega) (by omega) hn8 (by omega) (by omega) (by omega) (applyL y S.L) (by
    rcases (show y.kind = 0 ∨ y.kind = 1 by have := h8.kind; omega) with q | q
    · obtain ⟨A, R, hsc, hL, e1, e2, e3, e4⟩ := cut_ins h8 q hr.2.2.1 h0 hI.apart
      exact .inr ⟨q, A, R, y.el hsc, hL, e4, rfl, eo.symm, rfl, rfl, e3⟩
    · obtain ⟨A, R, z, hL, e1, e2, e3, e4⟩ := cut_del h8 q hr.2.2.1 hI.apart
      exact .inl ⟨q, A, z, R, hL, e4, e3⟩)
  rw [eo] at H
  refine H.mono ?_
  rintro e w' ⟨rfl, vl', vL', h1, h2, h3, h4⟩
  have hkk := h.ksBlk h2
  refine ⟨rfl, vl', vw, vL', log ++ [opCells y (.slice va S.n vp)], wr, ⟨h1.sameOps (y :: S.ops), logAt_push (h.lg.kept hkk) (hk.kept (fun g hg => hkk g (hko g hg))) hko, h.wl.kept hkk, h.kd⟩, h2, refOwn_from3 h3 (fun g hg => .inl hg) h4⟩

end Go.Proofs.YtachmkhbbbmioaaGreat
