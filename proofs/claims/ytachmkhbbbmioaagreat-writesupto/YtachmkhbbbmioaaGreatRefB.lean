import Derived.Test.YtachmkhbbbmioaaGreatRefA
import Derived.Test.YtachmkhbbbmioaaGreatTyP
import Derived.BigQuiet
namespace Go.Proofs.YtachmkhbbbmioaaGreat
open Go.RowKit Go.Shelf

/-- Where the first element with a mark stands, from i on; -1: nowhere. -/
def findI (c k : Int) : List El → Nat → Int
  | [], _ => -1
  | x :: L, i => if x.c = c ∧ x.k = k then (i : Int) else findI c k L (i + 1)

theorem eqMarkR (w : World) (a b c d : Int) : (binOp .eql 86 (.agg #[.int .i64 a, .int .i64 b]) (.agg #[.int .i64 c, .int .i64 d])).run Tryz.prog w = .ok (.bool (a == c && b == d)) w := by
  have h : (Op.equal 86 (.agg #[.int .i64 a, .int .i64 b]) (.agg #[.int .i64 c, .int .i64 d])).run Tryz.prog w = .ok (a == c && b == d) w := by
    show (Op.equalIn (9999 + 1) 86 (.agg #[.int .i64 a, .int .i64 b]) (.agg #[.int .i64 c, .int .i64 d])).run Tryz.prog w = _
    by_cases e : a = c
    · by_cases f : b = d <;> simp [go_sem, e, f]
    · simp [go_sem, e]
  unfold binOp
  simp [h]

theorem grown_drewN (w : World) (n : Nat) : w.grownBy (w.drewN n) none := ⟨rfl, rfl, rfl, Nat.le_refl _, fun _ _ _ => rfl⟩

set_option maxRecDepth 100000 in
set_option maxHeartbeats 2000000 in
theorem ref_at (yb : Nat) (S : CS) (vc vl vw vL : Value) (log wt : List (List Value)) (c k : Int) (w : World) (h : RefAt yb S vc vl vw vL log wt w) (hlen : S.L.length ≤ 1000000) :
    Calls Tryz.prog 138 #[.pointer (some ⟨yb, 0, none⟩), .agg #[.int .i64 c, .int .i64 k]] w fun e w' => e = .returned (.int .i64 (findI c k S.L 0)) ∧ w.grownBy w' none := by
  obtain ⟨aL, cL, rfl, hcL⟩ := h.ln.value
  rw [List.length_map] at hcL
  rw [List.length_map] at h
  have g0 : w.grownBy (w.alloc (.cells #[.int .i64 c, .int .i64 k] 86)) none := grown_alloc (grown_refl _) _
  have b0 : (w.alloc (.cells #[.int .i64 c, .int .i64 k] 86)).heap[w.heap.size]? = some (.cells #[.int .i64 c, .int .i64 k] 86) := by rw [heap_alloc_at]; simp
  go_enter Tryz.func138, Tryz.ntmps138
  go_wp2_with fail
  go_loopg [5] S.L.length (fun g s5 wr => ∃ (i : Nat), s5 = .int .i64 i ∧ i ≤ S.L.length ∧ g = S.L.length - i ∧ findI c k S.L 0 = findI c k (S.L.drop i) i ∧ w.grownBy wr none ∧ wr.heap[w.heap.size]? = some (.cells #[.int .i64 c, .int .i64 k] 86))
  case atStart => exact ⟨0, rfl, by omega, rfl, rfl, g0, b0⟩
  case round =>
    obtain ⟨i, rfl, hil, hg, hF, hG, hb⟩ := hrel
    have hr := h.grown hG
    have d6 : wr.cell? ⟨yb, 6, none⟩ = some (.slice aL S.L.length cL) := cell_blk hr.cp 6
    have e0 : wr.cell? ⟨w.heap.size, 0, none⟩ = some (.int .i64 c) := cell_blk hb 0
    have e1 : wr.cell? ⟨w.heap.size, 1, none⟩ = some (.int .i64 k) := cell_blk hb 1
    by_cases hlt : i < S.L.length
    · have hli : (i : Int) < (S.L.length : Int) := by omega
      have hx : S.L[i]? = some S.L[i] := by simp [hlt]
      have hdr : S.L.drop i = S.L[i] :: S.L.drop (i + 1) := List.drop_eq_getElem_cons hlt
      generalize S.L[i] = x at hx hdr
      rw [hdr] at hF
      obtain ⟨gL, cap, cur, hv, hcap, hbl, hcell⟩ := hr.ln.cell (i := i) (x := elCells x) (by simp [hx])
      simp only [Value.slice.injEq] at hv
      obtain ⟨rfl, -, rfl⟩ := hv
      have k0 : wr.cell? ⟨gL, i * 4, none⟩ = some (.int .i64 x.c) := (cell_blk hbl (i * 4)).trans (hcell 0 _ rfl)
      have k1 : wr.cell? ⟨gL, i * 4 + 1, none⟩ = some (.int .i64 x.k) := (cell_blk hbl (i * 4 + 1)).trans (hcell 1 _ rfl)
      by_cases hm : x.c = c ∧ x.k = k
      · have hm1 : (x.c == c && x.k == k) = true := by simp [hm.1, hm.2]
        have heq : ∀ w, (binOp .eql 86 (.agg #[.int .i64 x.c, .int .i64 x.k]) (.agg #[.int .i64 c, .int .i64 k])).run Tryz.prog w = .ok (.bool true) w := fun w => by rw [eqMarkR, hm1]
        rw [findI, if_pos hm] at hF
        have HF := hide hF
        clear hF hm hm1
        go_wp2_with fail
        go_quiet (fail)
        go_wp2_with fail
        go_ret
        exact ⟨by rw [HF.out]; rfl, hG.trans (grown_drewN _ _)⟩
      · have hm1 : (x.c == c && x.k == k) = false := by
          rw [Bool.eq_false_iff]; intro q; simp at q; exact hm q
        have heq : ∀ w, (binOp .eql 86 (.agg #[.int .i64 x.c, .int .i64 x.k]) (.agg #[.int .i64 c, .int .i64 k])).run Tryz.prog w = .ok (.bool false) w := fun w => by rw [eqMarkR, hm1]
        rw [findI, if_neg hm] at hF
        have HF := hide hF
        clear hF hm hm1
        go_wp2_with fail
        go_quiet (fail)
        go_wp2_with fail
        go_roundg (S.L.length - (i + 1))
        case measure => omega
        case rel => exact ⟨i + 1, by go_num, by omega, rfl, HF.out, hG.trans (grown_drewN _ _), hb⟩
    · obtain rfl : i = S.L.length := by omega
      rw [List.drop_length] at hF
      have HF := hide hF
      clear hF
      go_wp2_with fail
      go_ret
      exact ⟨by rw [HF.out]; rfl, hG⟩

end Go.Proofs.YtachmkhbbbmioaaGreat
