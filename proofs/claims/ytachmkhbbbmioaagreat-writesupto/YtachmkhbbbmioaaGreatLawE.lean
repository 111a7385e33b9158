import Derived.Test.YtachmkhbbbmioaaGreatLawA
import Derived.Test.YtachmkhbbbmioaaGreatLawB
import Derived.Test.YtachmkhbbbmioaaGreatLawD
namespace Go.Proofs.YtachmkhbbbmioaaGreat
open Go.RowKit Go.Shelf

set_option maxRecDepth 100000 in
set_option maxHeartbeats 4000000 in
/-- One act. -/
theorem act_any (base wb : Nat) (vl vi : Value) (prs : List Pr) (irs : List IR) (k C A B : Int) (s : ByteArray) (w : World) (h0 : LawAt base wb vl vi prs irs w) (hb0 : base ≤ w.heap.size) (hlen : irs.length ≤ 2000000) (hp0 : 0 < prs.length) (hp9 : prs.length ≤ 9)
    (hC1 : -9223372036854775808 ≤ C) (hC2 : C ≤ 9223372036854775807) (hk : k ≤ 6 ∨ k = 11) :
    Calls Tryz.prog 34 #[.pointer (some ⟨wb, 0, none⟩), .agg #[.int .i64 k, .int .i64 C, .int .i64 A, .int .i64 B, .string s]] w fun e w' => e = .returned (.bool true) ∧ ∃ vi' prs' irs', prs'.length = prs.length ∧ irs'.length ≤ irs.length + 1 ∧ LawAt base wb vl vi' prs' irs' w' ∧ Below base w w' := by
  have g1 : w.grownBy (w.alloc (.cells #[.int .i64 k, .int .i64 C, .int .i64 A, .int .i64 B, .string s] 72)) none := grown_alloc (grown_refl _) _
  have k1 : (w.alloc (.cells #[.int .i64 k, .int .i64 C, .int .i64 A, .int .i64 B, .string s] 72)).heap[w.heap.size]? = some (.cells #[.int .i64 k, .int .i64 C, .int .i64 A, .int .i64 B, .string s] 72) := by
    rw [heap_alloc_at]; simp
  go_enter Tryz.func34, Tryz.ntmps34
  go_upto_region 1 with fail
  generalize (w.alloc (.cells #[.int .i64 k, .int .i64 C, .int .i64 A, .int .i64 B, .string s] 72)) = w1 at g1 k1 ⊢
  have h := h0.grown g1
  obtain ⟨b1, hb1e⟩ : ∃ b1, w.heap.size = b1 := ⟨_, rfl⟩
  have hb1 := hb0
  rw [hb1e] at k1 ⊢
  obtain ⟨i, hi⟩ : ∃ i, pk C prs.length = i := ⟨_, rfl⟩
  have hil : i < prs.length := hi ▸ pk_lt C hp0
  have hPk := fun w => pickL C prs.length hp0 (by omega) hC1 hC2 w
  rw [hi] at hPk
  clear hi
  obtain ⟨x, hx⟩ : ∃ x, prs[i]? = some x := ⟨prs[i], by simp [hil]⟩
  have c0 : w1.cell? ⟨wb, 0, none⟩ = some vl := cell_blk h.cp 0
  obtain ⟨gl, cl, cur, hvl, -, hbl, hcell⟩ := h.l.cell (i := i) (x := twoCells x) (by simp [hx])
  rw [List.length_map] at hvl
  rw [hvl] at c0
  have t0 : w1.cell? ⟨gl, i * 2, none⟩ = some (.pointer (some ⟨x.cb, 0, none⟩)) := (cell_blk hbl _).trans (hcell 0 _ rfl)
  have t1 : w1.cell? ⟨gl, i * 2 + 1, none⟩ = some (.pointer (some ⟨x.yb, 0, none⟩)) := (cell_blk hbl _).trans (hcell 1 _ rfl)
  have a1 : w1.cell? ⟨b1, 1, none⟩ = some (.int .i64 C) := cell_blk k1 1
  have hli : (i : Int) < (prs.length : Int) := by omega
  have HX := hide hx
  have HK := hide hk
  clear hx hk hcell
  generalize hPL : prs.length = m at hli hil hPk c0 hp9 hp0
  go_cut [5] (fun s5 wx => ∃ b5 : Nat, s5 = .pointer (some ⟨b5, 0, none⟩) ∧ wx.heap[b5]? = some (.cells #[.pointer (some ⟨x.cb, 0, none⟩), .pointer (some ⟨x.yb, 0, none⟩)] 39) ∧ w1.grownBy wx none)
  case first =>
    go_region_held3 (fun w' => w'.cell? ⟨wb, 0, none⟩ = some (.slice (some ⟨gl, 0, none⟩) m cl) ∧ w'.cell? ⟨b1, 1, none⟩ = some (.int .i64 C) ∧ w'.cell? ⟨gl, i * 2, none⟩ = some (.pointer (some ⟨x.cb, 0, none⟩)) ∧ w'.cell? ⟨gl, i * 2 + 1, none⟩ = some (.pointer (some ⟨x.yb, 0, none⟩))) (go_keep)
      (first | (go_at_call 12; refine (hPk _).mono ?_; rintro e w' ⟨rfl, hw⟩; rw [hw]; clear hw w'))
    all_goals
      go_wp2_with fail
      go_meet
      exact ⟨w1.heap.size, rfl, by rw [heap_drew, heap_alloc_at]; simp, grown_drew (grown_alloc (grown_refl _) _)⟩
  case rest =>
  obtain ⟨b5, rfl, k5, g5⟩ := hcut
  have h2 := h.grown g5
  have k2 := (g5.block _ (lt_of_heap k1) (by simp)).trans k1
  have g2 := grown_trans g1 g5
  have hb2 : base ≤ wc.heap.size := Nat.le_trans hb1 (Nat.le_trans g1.size g5.size)
  have hB2 : Below base w wc := (Below.refl _ w).grown g2 hb1 (by simp)
  clear t0 t1 a1 c0 hbl hPk h h0 g1 g5 g2 k1 hli
  have a0 : wc.cell? ⟨b1, 0, none⟩ = some (.int .i64 k) := cell_blk k2 0
  have a1 : wc.cell? ⟨b1, 1, none⟩ = some (.int .i64 C) := cell_blk k2 1
  have a2 : wc.cell? ⟨b1, 2, none⟩ = some (.int .i64 A) := cell_blk k2 2
  have a3 : wc.cell? ⟨b1, 3, none⟩ = some (.int .i64 B) := cell_blk k2 3
  have a4 : wc.cell? ⟨b1, 4, none⟩ = some (.string s) := cell_blk k2 4
  have t0 : wc.cell? ⟨b5, 0, none⟩ = some (.pointer (some ⟨x.cb, 0, none⟩)) := cell_blk k5 0
  have t1 : wc.cell? ⟨b5, 1, none⟩ = some (.pointer (some ⟨x.yb, 0, none⟩)) := cell_blk k5 1
  have end_write : ∀ {w3 : World}, After x wc w3 → ∃ vi' prs' irs', prs'.length = prs.length ∧ irs'.length ≤ irs.length + 1 ∧ LawAt base wb vl vi' prs' irs' w3 ∧ Below base w w3 := by
    intro w3 hA
    obtain ⟨x', hL, hB⟩ := h2.after HX.out hA hb2
    exact ⟨vi, prs.set i x', irs, by simp, by omega, hL, hB2.trans hB⟩
  have HW := hide (fun k C A B s => writes_any wb x k C A B s wc (h2.pr i x HX.out))
  have HA := hide (asks_any base wb vl vi prs irs i x wc h2 HX.out hb2 hlen)
  by_cases q1 : k = 1
  · subst q1
    go_wp2_with fail
    refine (HW.out _ _ _ _ _).mono ?_
    rintro e w3 ⟨rfl, hA⟩
    go_wp2_with fail
    go_ret
    exact ⟨rfl, end_write hA⟩
  by_cases q2 : k = 2
  · subst q2
    go_wp2_with fail
    refine (HW.out _ _ _ _ _).mono ?_
    rintro e w3 ⟨rfl, hA⟩
    go_wp2_with fail
    go_ret
    exact ⟨rfl, end_write hA⟩
  by_cases q3 : k = 3
  · subst q3
    go_wp2_with fail
    refine (HA.out 3 (by omega)).mono ?_
    rintro e w3 ⟨rfl, vi', irs', hl', hL3, hB3⟩
    go_wp2_with fail
    go_ret
    exact ⟨rfl, vi', prs, irs', rfl, hl', hL3, hB2.trans hB3⟩
  by_cases q4 : k = 4
  · subst q4
    go_wp2_with fail
    refine (HA.out 4 (by omega)).mono ?_
    rintro e w3 ⟨rfl, vi', irs', hl', hL3, hB3⟩
    go_wp2_with fail
    go_ret
    exact ⟨rfl, vi', prs, irs', rfl, hl', hL3, hB2.trans hB3⟩
  by_cases q5 : k = 5
  · subst q5
    go_wp2_with fail
    refine (HA.out 5 (by omega)).mono ?_
    rintro e w3 ⟨rfl, vi', irs', hl', hL3, hB3⟩
    go_wp2_with fail
    go_ret
    exact ⟨rfl, vi', prs, irs', rfl, hl', hL3, hB2.trans hB3⟩
  by_cases q6 : k = 6
  · subst q6
    go_wp2_with fail
    refine (HA.out 6 (by omega)).mono ?_
    rintro e w3 ⟨rfl, vi', irs', hl', hL3, hB3⟩
    go_wp2_with fail
    go_ret
    exact ⟨rfl, vi', prs, irs', rfl, hl', hL3, hB2.trans hB3⟩
  have end_same : ∀ {w3 : World}, Below wc.heap.size wc w3 → ∃ vi' prs' irs', prs'.length = prs.length ∧ irs'.length ≤ irs.length + 1 ∧ LawAt base wb vl vi' prs' irs' w3 ∧ Below base w w3 := by
    intro w3 hB
    exact ⟨vi, prs, irs, rfl, by omega, h2.below hB, hB2.trans (hB.mono hb2)⟩
  by_cases q11 : k = 11
  · subst q11
    have HB := hide (begins_out wb A B wc)
    go_wp2_with fail
    refine HB.out.mono ?_
    rintro e w3 ⟨rfl, hB3⟩
    go_wp2_with fail
    go_ret
    exact ⟨rfl, end_same hB3⟩
  · have hk0 : k ≤ 0 := by have := HK.out; omega
    have e1 : (k == 1) = false := by simp; omega
    have e2 : (k == 2) = false := by simp; omega
    have e3 : (k == 3) = false := by simp; omega
    have e4 : (k == 4) = false := by simp; omega
    have e5 : (k == 5) = false := by simp; omega
    have e6 : (k == 6) = false := by simp; omega
    have e7 : (k == 7) = false := by simp; omega
    have e8 : (k == 8) = false := by simp; omega
    have e9 : (k == 9) = false := by simp; omega
    have e10 : (k == 10) = false := by simp; omega
    have e11 : (k == 11) = false := by simp; omega
    have e12 : (k == 12) = false := by simp; omega
    clear q1 q2 q3 q4 q5 q6 q11
    go_wp2_with fail
    go_ret
    exact ⟨rfl, end_same (Below.refl _ _)⟩

end Go.Proofs.YtachmkhbbbmioaaGreat
