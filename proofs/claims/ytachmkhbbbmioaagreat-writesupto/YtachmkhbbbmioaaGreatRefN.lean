import Derived.Test.YtachmkhbbbmioaaGreatRefH
import Derived.Test.YtachmkhbbbmioaaGreatBad
namespace Go.Proofs.YtachmkhbbbmioaaGreat
open Go.RowKit Go.Shelf

set_option maxRecDepth 100000 in
set_option maxHeartbeats 1000000 in
theorem refNew_bad (n s : Int) (h : newCode n s ≠ 0) (w : World) :
    Calls Tryz.prog 36 #[.agg #[.int .i64 n, .int .i64 s]] w fun e w' => e = .returned (.tuple #[.pointer none, .int .i64 (newCode n s)]) ∧ w.grownBy w' none := by
  have g0 : w.grownBy (w.alloc (.cells #[.int .i64 n, .int .i64 s] 77)) none := grown_alloc (grown_refl _) _
  unfold newCode at h ⊢
  by_cases h1 : n < 1
  · rw [if_pos (.inl h1)]
    go_enter Tryz.func36, Tryz.ntmps36
    go_wp2_with fail
    go_ret2
    exact ⟨rfl, g0⟩
  · by_cases h2 : 8 < n
    · rw [if_pos (.inr h2)]
      go_enter Tryz.func36, Tryz.ntmps36
      go_wp2_with fail
      go_ret2
      exact ⟨rfl, g0⟩
    · rw [if_neg (by omega)] at h ⊢
      by_cases h3 : s < 1
      · rw [if_pos (.inl h3)]
        go_enter Tryz.func36, Tryz.ntmps36
        go_wp2_with fail
        go_ret2
        exact ⟨rfl, g0⟩
      · by_cases h4 : n < s
        · rw [if_pos (.inr h4)]
          go_enter Tryz.func36, Tryz.ntmps36
          go_wp2_with fail
          go_ret2
          exact ⟨rfl, g0⟩
        · rw [if_neg (by omega)] at h
          exact (h rfl).elim

theorem ckRow_new (n s : Nat) : ckRow (newS n s) = List.replicate n [.int .i64 0] := by
  apply List.ext_getElem?
  intro i
  by_cases h : i < n
  · simp [ckRow, newS, h]
  · rw [List.getElem?_eq_none (by simp [ckRow, newS]; omega), List.getElem?_eq_none (by simp; omega)]

theorem flatten_rep (n : Nat) (x : Value) : (List.replicate n [x]).flatten = List.replicate n x := by
  induction n with
  | zero => rfl
  | succ n ih => rw [List.replicate_succ, List.flatten_cons, ih, List.replicate_succ]; rfl

theorem refAt_new {n s : Nat} (h8 : n ≤ 8) {w2 : World} {b yb : Nat} (hb : w2.heap[b]? = some (.cells (madeCells #[.int .i64 0] n) 3)) (hy : w2.heap[yb]? = some (.cells #[.int .i64 n, .int .i64 s, .slice (some ⟨b, 0, none⟩) n n, .int .i64 0, .slice none 0 0, .slice none 0 0, .slice none 0 0] 118)) :
    RefAt yb (newS n s) (.slice (some ⟨b, 0, none⟩) n n) (.slice none 0 0) (.slice none 0 0) (.slice none 0 0) [] [] w2 := by
  refine ⟨hy, ⟨⟨?_, .inr ⟨b, n, _, ?_, Nat.zero_le _, hb, ?_, ?_, ?_, ?_⟩⟩, ?_⟩, row_nil _ _ _, row_nil _ _ _, row_nil _ _ _, by simp [Value.ownBlock]⟩
  · rw [ckRow_new, flatten_rep]; simp
  · rw [ckRow_new]; simp
  · rw [ckRow_new]; simp
  · unfold maxLen; omega
  · rw [size_madeCells]; simp
  · rw [ckRow_new, flatten_rep, toList_madeCells_one]; simp
  · rw [ckRow_new]; intro x hx; rw [List.eq_of_mem_replicate hx]; rfl

set_option maxRecDepth 100000 in
set_option maxHeartbeats 1000000 in
theorem refNew_any (n s : Nat) (h1 : 1 ≤ s) (h2 : s ≤ n) (h3 : n ≤ 8) (w : World) :
    Calls Tryz.prog 36 #[.agg #[.int .i64 n, .int .i64 s]] w fun e w' => ∃ yb vc, e = .returned (.tuple #[.pointer (some ⟨yb, 0, none⟩), .int .i64 0]) ∧ RefAt yb (newS n s) vc (.slice none 0 0) (.slice none 0 0) (.slice none 0 0) [] [] w' ∧ w.grownBy w' none ∧
      (∀ k ∈ refOwn yb vc (.slice none 0 0) (.slice none 0 0) (.slice none 0 0), w.heap.size ≤ k) := by
  have hn1 : ¬ (n : Int) < 1 := by omega
  have hn8 : ¬ (8 : Int) < (n : Int) := by omega
  have hs1 : ¬ (s : Int) < 1 := by omega
  have hsn : ¬ (n : Int) < (s : Int) := by omega
  have hmk := fun w => run_make_row' (P := Tryz.prog) 40 3 (.int .i64 0) 8 Tryz.underlying40 infoInt rfl .i64 .i64 n (by omega) (by omega) w
  go_enter Tryz.func36, Tryz.ntmps36
  go_wp2_with fail
  have g0 : w.grownBy (w.alloc (.cells #[.int .i64 (n : Int), .int .i64 (s : Int)] 77)) none := grown_alloc (grown_refl _) _
  have k0 : (w.alloc (.cells #[.int .i64 (n : Int), .int .i64 (s : Int)] 77)).heap[w.heap.size]? = some (.cells #[.int .i64 (n : Int), .int .i64 (s : Int)] 77) := by rw [heap_alloc_at]; simp
  generalize (w.alloc (.cells #[.int .i64 (n : Int), .int .i64 (s : Int)] 77)) = w1 at g0 k0 ⊢
  have c0 : w1.cell? ⟨w.heap.size, 0, none⟩ = some (.int .i64 (n : Int)) := cell_blk k0 0
  have c1 : w1.cell? ⟨w.heap.size, 1, none⟩ = some (.int .i64 (s : Int)) := cell_blk k0 1
  have m1 := World.new_ne w1 _ c0
  go_region_held3 (fun w' => w'.cell? ⟨w.heap.size, 0, none⟩ = some (.int .i64 (n : Int)) ∧ w'.cell? ⟨w.heap.size, 1, none⟩ = some (.int .i64 (s : Int))) (go_keep) (fail)
  have hb : ((w1.alloc (.cells (madeCells #[.int .i64 0] n) 3)).alloc (.cells #[.int .i64 (n : Int), .int .i64 (s : Int), .slice (some ⟨w1.heap.size, 0, none⟩) n n, .int .i64 0, .slice none 0 0, .slice none 0 0, .slice none 0 0] 118)).drew.heap[w1.heap.size]? = some (.cells (madeCells #[.int .i64 0] n) 3) := by
    rw [heap_drew, Below.heap_alloc _ _ _ (by simp), heap_alloc_at]; simp
  have hy : ((w1.alloc (.cells (madeCells #[.int .i64 0] n) 3)).alloc (.cells #[.int .i64 (n : Int), .int .i64 (s : Int), .slice (some ⟨w1.heap.size, 0, none⟩) n n, .int .i64 0, .slice none 0 0, .slice none 0 0, .slice none 0 0] 118)).drew.heap[w1.heap.size + 1]? = some (.cells #[.int .i64 (n : Int), .int .i64 (s : Int), .slice (some ⟨w1.heap.size, 0, none⟩) n n, .int .i64 0, .slice none 0 0, .slice none 0 0, .slice none 0 0] 118) := by
    rw [heap_drew, heap_alloc_at]; simp
  have hg : w.grownBy ((w1.alloc (.cells (madeCells #[.int .i64 0] n) 3)).alloc (.cells #[.int .i64 (n : Int), .int .i64 (s : Int), .slice (some ⟨w1.heap.size, 0, none⟩) n n, .int .i64 0, .slice none 0 0, .slice none 0 0, .slice none 0 0] 118)).drew none := grown_drew (grown_alloc (grown_alloc g0 _) _)
  have hs := g0.size
  generalize ((w1.alloc (.cells (madeCells #[.int .i64 0] n) 3)).alloc (.cells #[.int .i64 (n : Int), .int .i64 (s : Int), .slice (some ⟨w1.heap.size, 0, none⟩) n n, .int .i64 0, .slice none 0 0, .slice none 0 0, .slice none 0 0] 118)).drew = w2 at hb hy hg ⊢
  go_wp2_with fail
  go_ret2
  refine ⟨w1.heap.size + 1, rfl, _, refAt_new h3 hb hy, hg, ?_⟩
  intro k hk
  simp only [refOwn, Value.ownBlock, Option.toList_some, Option.toList_none, List.append_nil, List.mem_cons, List.not_mem_nil, or_false] at hk
  rcases hk with rfl | rfl <;> omega

end Go.Proofs.YtachmkhbbbmioaaGreat
