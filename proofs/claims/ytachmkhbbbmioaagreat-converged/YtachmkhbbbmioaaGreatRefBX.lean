import Derived.Test.YtachmkhbbbmioaaGreatRowPX
import Derived.Test.YtachmkhbbbmioaaGreatTyP
import Derived.BigQuiet
namespace Go.Proofs.YtachmkhbbbmioaaGreat
open Go.RowKit Go.Shelf

/-- Where the first element with a mark stands, from i on; -1: nowhere. -/
def findI (c k : Int) : List El → Nat → Int
  | [], _ => -1
  | x :: L, i => if x.c = c ∧ x.k = k then (i : Int) else findI c k L (i + 1)

theorem eqMarkR (w : World) (a b c d : Int) : (binOp .eql 86 (.agg #[.int .i64 a, .int .i64 b]) (.agg #[.int .i64 c, .int .i64 d])).run Tryz.prog w = .ok (.bool (a == c && b == d)) w := by
  have h : (Op.equal 86 (.agg #[.int .i64 a, .int .i64 b]) (.agg #[.int .i64 c, .int .i64 d])).run Tryz.prog w = .ok (a == c && b == d) w := by
    show (Op.equalIn (9999 + 1) 86 (.agg #[.int .i64 a, .int .i64 b]) (.agg #[.int .i64 c, .int .i64 d])).run Tryz.prog w = _
    by_cases e : a = c
    · by_cases f : b = d <;> simp [go_sem, e, f]
    · simp [go_sem, e]
  unfold binOp
  simp [h]

theorem grown_drewN (w : World) (n : Nat) : w.grownBy (w.drewN n) none := ⟨rfl, rfl, rfl, Nat.le_refl _, fun _ _ _ => rfl⟩

set_option maxRecDepth 100000 in
set_option maxHeartbeats 2000000 in
theorem ref_at (yb : Nat) (S : CS) (vc vl vw vL : Value) (log wt : List (List Value)) (c k : Int) (w : World) (h : RefAt yb S vc vl vw vL log wt w) (hlen : S.L.length ≤ 1000000) :
    Calls Tryz.prog 138 #[.pointer (some ⟨yb, 0, none⟩), .agg #[.int .i64 c, .int .i64 k]] w fun e w' => e = .returned (.int .i64 (findI c k S.L 0)) ∧ w.grownBy w' none := by
  obtain ⟨aL, cL, rfl, hcL⟩ := h.ln.value
  rw [List.length_map] at hcL
  rw [List.length_map] at h
  have g0 : w.grownBy (w.alloc (.cells #[.int .i64 c, .int .i64 k] 86)) none := grown_alloc (grown_refl _) _
  have b0 : (w.alloc (.cells #[.int .i64 c, .int .i64 k] 86)).heap[w.heap.size]? = some (.cells #[.int .i64 c, .int .i64 k] 86) := by rw [heap_alloc_at]; simp
  go_enter Tryz.func138, Tryz.ntmps138
  go_wp2_with fail
  go_loopg [5] S.L.length (fun g s5 wr => ∃ (i : Nat), s5 = .int .i64 i ∧ i ≤ S.L.length ∧ g = S.L.length - i ∧ findI c k S.L 0 = findI c k (S.L.drop i) i ∧ w.grownBy wr none ∧ wr.heap[w.heap.size]? = some (.cells #[.int .i64 c, .int .i64 k] 86))
  case atStart => exact ⟨0, rfl, by omega, rfl, rfl, g0, b0⟩
  case round =>
    obtain ⟨i, rfl, hil, hg, hF, hG, hb⟩ := hrel
    have hr := h.grown hG
    have d6 : wr.cell? ⟨yb, 6, none⟩ = some (.slice aL S.L.length cL) := cell_blk hr.cp 6
    have e0 : wr.cell? ⟨w.heap.size, 0, none⟩ = some (.int .i64 c) := cell_blk hb 0
    have e1 : wr.cell? ⟨w.heap.size, 1, none⟩ = some (.int .i64 k) := cell_blk hb 1
    by_cases hlt : i < S.L.length
    · have hli : (i : Int) < (S.L.length : Int) := by omega
      have hx : S.L[i]? = some S.L[i] := by simp [hlt]
      have hdr : S.L.drop i = S.L[i] :: S.L.drop (i + 1) := List.drop_eq_getElem_cons hlt
      generalize S.L[i] = x at hx hdr
      rw [hdr] at hF
      obtain ⟨gL, cap, cur, hv, hcap, hbl, hcell⟩ := hr.ln.cell (i := i) (x := elCells x) (by simp [hx])
      simp only [Value.slice.injEq] at hv
      obtain ⟨rfl, -, rfl⟩ := hv
      have k0 : wr.cell? ⟨gL, i * 4, none⟩ = some (.int .i64 x.c) := (cell_blk hbl (i * 4)).trans (hcell 0 _ rfl)
      have k1 : wr.cell? ⟨gL, i * 4 + 1, none⟩ = some (.int .i64 x.k) := (cell_blk hbl (i * 4 + 1)).trans (hcell 1 _ rfl)
      by_cases hm : x.c = c ∧ x.k = k
      · have hm1 : (x.c == c && x.k == k) = true := by simp [hm.1, hm.2]
        have heq : ∀ w, (binOp .eql 86 (.agg #[.int .i64 x.c, .int .i64 x.k]) (.agg #[.int .i64 c, .int .i64 k])).run Tryz.prog w = .ok (.bool true) w := fun w => by rw [eqMarkR, hm1]
        rw [findI, if_pos hm] at hF
        have HF := hide hF
        clear hF hm hm1
        go_wp2_with fail
        go_quiet (fail)
        go_wp2_with fail
        go_ret
        exact ⟨by rw [HF.out]; rfl, hG.trans (grown_drewN _ _)⟩
      · have hm1 : (x.c == c && x.k == k) = false := by
          rw [Bool.eq_false_iff]; intro q; simp at q; exact hm q
        have heq : ∀ w, (binOp .eql 86 (.agg #[.int .i64 x.c, .int .i64 x.k]) (.agg #[.int .i64 c, .int .i64 k])).run Tryz.prog w = .ok (.bool false) w := fun w => by rw [eqMarkR, hm1]
        rw [findI, if_neg hm] at hF
        have HF := hide hF
        clear hF hm hm1
        go_wp2_with fail
        go_quiet (fail)
        go_wp2_with fail
        go_roundg (S.L.length - (i + 1))
        case measure => omega
        case rel => exact ⟨i + 1, by go_num, by omega, rfl, HF.out, hG.trans (grown_drewN _ _), hb⟩
    · obtain rfl : i = S.L.length := by omega
      rw [List.drop_length] at hF
      have HF := hide hF
      clear hF
      go_wp2_with fail
      go_ret
      exact ⟨by rw [HF.out]; rfl, hG⟩

end Go.Proofs.YtachmkhbbbmioaaGreat

namespace Go.Proofs.YtachmkhbbbmioaaGreat
open Go.RowKit Go.Shelf

set_option maxHeartbeats 400000 in
theorem aboveR (a b c d : Int) (w : World) :
    Calls Tryz.prog 139 #[.agg #[.int .i64 a, .int .i64 b], .agg #[.int .i64 c, .int .i64 d]] w fun e w' => e = .returned (.bool (decide (c < a ∨ (a = c ∧ d < b)))) ∧ w.grownBy w' none := by
  have g : w.grownBy ((w.alloc (.cells #[.int .i64 a, .int .i64 b] 86)).alloc (.cells #[.int .i64 c, .int .i64 d] 86)) none := grown_alloc (grown_alloc (grown_refl _) _) _
  go_enter Tryz.func139, Tryz.ntmps139
  by_cases h0 : c < a
  · go_wp2
    go_ret
    refine ⟨?_, g⟩
    simp [h0]
  · by_cases h : a = c
    · have h1 : (a == c) = true := by simp [h]
      have H : Hid (a = c) := h
      clear h
      go_wp2
      go_ret
      refine ⟨congrArg (fun q => Ending.returned (.bool q)) (a₁ := decide (d < b)) ?_, g⟩
      have hh := H.out
      subst hh
      simp
    · have h1 : (a == c) = false := by simp [h]
      have H : Hid (¬ a = c) := h
      clear h
      go_wp2
      go_ret
      refine ⟨congrArg (fun q => Ending.returned (.bool q)) (a₁ := false) ?_, g⟩
      have hh := H.out
      symm
      simp [hh]
      omega

theorem scalarR (r : Int) (w : World) :
    Calls Tryz.prog 135 #[.int .i64 r] w fun e w' => e = .returned (.bool (Lib.validRune r)) ∧ w' = w := by
  have fin : ∀ b : Bool, (b = true ↔ ((0 ≤ r ∧ r < 55296) ∨ (57343 < r ∧ r ≤ 1114111))) → Lib.validRune r = b := fun b hb => by
    unfold Lib.validRune
    rw [Bool.eq_iff_iff, hb, decide_eq_true_iff]
  by_cases c1 : 0 ≤ r
  · by_cases c2 : r ≤ 1114111
    · by_cases c3 : r < 55296
      · rw [fin true (by simp; omega)]
        go_enter Tryz.func135, Tryz.ntmps135
        go_wp2
        go_ret
        exact ⟨rfl, rfl⟩
      · by_cases c4 : 57343 < r
        · rw [fin true (by simp; omega)]
          go_enter Tryz.func135, Tryz.ntmps135
          go_wp2
          go_ret
          exact ⟨rfl, rfl⟩
        · rw [fin false (by simp; omega)]
          go_enter Tryz.func135, Tryz.ntmps135
          go_wp2
          go_ret
          exact ⟨rfl, rfl⟩
    · rw [fin false (by simp; omega)]
      go_enter Tryz.func135, Tryz.ntmps135
      go_wp2
      go_ret
      exact ⟨rfl, rfl⟩
  · rw [fin false (by simp; omega)]
    go_enter Tryz.func135, Tryz.ntmps135
    go_wp2
    go_ret
    exact ⟨rfl, rfl⟩

theorem ckRow_len (S : CS) : (ckRow S).length = S.n := by simp [ckRow]
theorem ckRow_at (S : CS) {i : Nat} (h : i < S.n) : (ckRow S)[i]? = some [.int .i64 (S.cl i)] := by simp [ckRow, h]

/-- The cell of one of the clock's numbers. -/
theorem RefAt.clock {yb : Nat} {S : CS} {vc vl vw vL : Value} {log wt : List (List Value)} {w : World} (h : RefAt yb S vc vl vw vL log wt w) {i : Nat} (hi : i < S.n) :
    ∃ g cap cur, vc = .slice (some ⟨g, 0, none⟩) S.n cap ∧ S.n ≤ cap ∧ w.heap[g]? = some (.cells cur 3) ∧ cur[i]? = some (.int .i64 (S.cl i)) := by
  obtain ⟨g, cap, cur, h1, h2, h3, h4⟩ := h.ck.cell (ckRow_at S hi)
  rw [ckRow_len] at h1 h2
  exact ⟨g, cap, cur, h1, h2, h3, by simpa using h4 0 _ rfl⟩

set_option maxRecDepth 100000 in
set_option maxHeartbeats 1000000 in
theorem ref_full (yb : Nat) (S : CS) (vc vl vw vL : Value) (log wt : List (List Value)) (w : World) (h : RefAt yb S vc vl vw vL log wt w) (h1 : 1 ≤ S.s) (hn : S.s ≤ S.n) (h8 : S.n ≤ 8) :
    Calls Tryz.prog 136 #[.pointer (some ⟨yb, 0, none⟩)] w fun r w' => r = .returned (.bool (decide (100 ≤ S.cl (S.s - 1) ∨ 1099511627776 ≤ S.g))) ∧ w.grownBy w' none := by
  obtain ⟨g, cap, cur, rfl, hcap, hb, hc⟩ := h.clock (i := S.s - 1) (by omega)
  obtain ⟨q, hq⟩ : ∃ q : Nat, S.s = q + 1 := ⟨S.s - 1, by omega⟩
  have c1 : w.cell? ⟨yb, 1, none⟩ = some (.int .i64 ((q : Int) + 1)) := by
    have : w.cell? ⟨yb, 1, none⟩ = some (.int .i64 S.s) := cell_blk h.cp 1
    rw [this, hq]; rfl
  have c2 : w.cell? ⟨yb, 2, none⟩ = some (.slice (some ⟨g, 0, none⟩) S.n cap) := cell_blk h.cp 2
  have c3 : w.cell? ⟨yb, 3, none⟩ = some (.int .i64 S.g) := cell_blk h.cp 3
  have hq1 : S.s - 1 = q := by omega
  rw [hq1] at hc ⊢
  have c4 : w.cell? ⟨g, q, none⟩ = some (.int .i64 (S.cl q)) := (cell_blk hb _).trans hc
  have hqn : q < S.n := by omega
  clear hq hq1 hn h1
  by_cases hc : 100 ≤ S.cl (q)
  · go_enter Tryz.func136, Tryz.ntmps136
    go_wp2_with fail
    go_quiet (fail)
    go_wp2_with fail
    go_ret
    refine ⟨?_, grown_drewN _ _⟩
    simp [hc]
  · have hd : decide (100 ≤ S.cl (q)) = false := by simpa using hc
    go_enter Tryz.func136, Tryz.ntmps136
    go_wp2_with fail
    go_quiet (fail)
    go_wp2_with fail
    go_ret
    refine ⟨?_, grown_drewN _ _⟩
    have e : (100 ≤ S.cl (q) ∨ 1099511627776 ≤ S.g) = (1099511627776 ≤ S.g) := by rw [eq_iff_iff]; omega
    simp only [e]
    rfl

theorem ck_one (S : CS) : ∀ y ∈ ckRow S, ∀ c ∈ y, c.oneCell' = true := by
  intro y hy c hc
  obtain ⟨x, -, rfl⟩ := List.mem_map.1 hy
  simp only [List.mem_cons, List.not_mem_nil, or_false] at hc
  rw [hc]; rfl

set_option maxRecDepth 100000 in
set_option maxHeartbeats 1000000 in
theorem ref_ahead (yb : Nat) (S : CS) (vc vl vw vL : Value) (log wt : List (List Value)) (w : World) (h : RefAt yb S vc vl vw vL log wt w) (h8 : S.n ≤ 8) :
    Calls Tryz.prog 79 #[.pointer (some ⟨yb, 0, none⟩)] w fun e w' => ∃ v, e = .returned v ∧ RowAt 3 1 v (ckRow S) w' ∧ (∀ g, v.ownBlock = some g → w.heap.size ≤ g) ∧ w.grownBy w' none := by
  obtain ⟨ac, cc, hvc, hcc⟩ := h.ck.value
  have c2 : w.cell? ⟨yb, 2, none⟩ = some vc := cell_blk h.cp 2
  rw [hvc, ckRow_len] at c2
  have hs := h.ck.src
  rw [hvc, ckRow_len] at hs
  have hn := row_nil 3 1 w
  go_enter Tryz.func79, Tryz.ntmps79
  go_wp2_with (at_builtin; refine wpList_row Tryz.underlying40 infoInts rfl (by decide) rfl _ _ rfl _ _ rfl hn _ _ rfl hs h.ck.2 (ck_one S) (by unfold maxLen; simp [ckRow_len]; omega) (by simp [ckRow_len]; omega) ?_; intro v' w' hR' hg' hat)
  rw [List.nil_append] at hR'
  go_wp2_with fail
  go_ret
  refine ⟨v', rfl, hR', ?_, hg'⟩
  intro g hg
  rcases hat with hat | hat
  · rw [hat] at hg; cases hg
  · rw [hat] at hg; cases hg; exact Nat.le_refl _

theorem ref_len (yb : Nat) (S : CS) (vc vl vw vL : Value) (log wt : List (List Value)) (w : World) (h : RefAt yb S vc vl vw vL log wt w) (hlen : S.L.length ≤ 1000000) :
    Calls Tryz.prog 45 #[.pointer (some ⟨yb, 0, none⟩)] w fun e w' => e = .returned (.int .i64 (vis S.L).length) ∧ Below w.heap.size w w' := by
  have ht := ref_there yb S vc vl vw vL log wt w h hlen
  go_enter Tryz.func45, Tryz.ntmps45
  go_wp2_with fail
  refine ht.mono ?_
  rintro e w1 ⟨v, rfl, hR, -, hB⟩
  obtain ⟨a, c, rfl, hc⟩ := hR.value
  rw [List.length_map] at hc ⊢
  go_wp2_with fail
  go_ret
  exact ⟨rfl, hB⟩

theorem ref_clock (yb : Nat) (S : CS) (vc vl vw vL : Value) (log wt : List (List Value)) (w : World) (h : RefAt yb S vc vl vw vL log wt w) (h8 : S.n ≤ 8) :
    Calls Tryz.prog 47 #[.pointer (some ⟨yb, 0, none⟩)] w fun e w' => ∃ v, e = .returned v ∧ RowAt 3 1 v (ckRow S) w' ∧ (∀ g, v.ownBlock = some g → w.heap.size ≤ g) ∧ w.grownBy w' none := by
  have ht := ref_ahead yb S vc vl vw vL log wt w h h8
  go_enter Tryz.func47, Tryz.ntmps47
  go_wp2_with fail
  refine ht.mono ?_
  rintro e w1 ⟨v, rfl, hR, hf, hB⟩
  go_wp2_with fail
  go_ret
  exact ⟨_, rfl, hR, hf, hB⟩

theorem ref_pending (yb : Nat) (S : CS) (vc vl vw vL : Value) (log wt : List (List Value)) (w : World) (h : RefAt yb S vc vl vw vL log wt w) :
    Calls Tryz.prog 50 #[.pointer (some ⟨yb, 0, none⟩)] w fun e w' => e = .returned (.int .i64 wt.length) ∧ w' = w := by
  obtain ⟨a, c, hv, hc⟩ := h.wt.value
  have c5 : w.cell? ⟨yb, 5, none⟩ = some vw := cell_blk h.cp 5
  rw [hv] at c5
  go_enter Tryz.func50, Tryz.ntmps50
  go_wp2_with fail
  go_ret
  exact ⟨rfl, rfl⟩

end Go.Proofs.YtachmkhbbbmioaaGreat
