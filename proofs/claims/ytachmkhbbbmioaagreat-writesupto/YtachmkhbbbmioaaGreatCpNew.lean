import Derived.Test.YtachmkhbbbmioaaGreatNews
namespace Go.Proofs.YtachmkhbbbmioaaGreat
open Go.RowKit Go.Shelf

set_option maxRecDepth 100000 in
set_option maxHeartbeats 1000000 in
theorem cpNew_any (n s : Nat) (h1 : 1 ≤ s) (h2 : s ≤ n) (h3 : n ≤ 8) (w : World) :
    Calls Tryz.prog 35 #[.agg #[.int .i64 n, .int .i64 s]] w fun e w' => ∃ cb sb ma mp lb mb, e = .returned (.tuple #[.pointer (some ⟨cb, 0, none⟩), .int .i64 0]) ∧ CpAt cb sb ma mp lb mb (newS n s) w' ∧ w.grownBy w' none ∧
      (w.heap.size ≤ cb ∧ w.heap.size ≤ sb ∧ w.heap.size ≤ ma ∧ w.heap.size ≤ mp ∧ w.heap.size ≤ lb ∧ w.heap.size ≤ mb) := by
  have hN := hide (fun w => stNew_any n s h1 h2 h3 w)
  go_enter Tryz.func35, Tryz.ntmps35
  go_wp2_with fail
  refine (hN.out _).mono ?_
  rintro e w1 ⟨sb, ma, mp, lb, mb, rfl, hS, hg, hb1, hb2, hb3, hb4, hb5⟩
  have hsz := hg.size
  simp only [World.size_alloc] at hb1 hb2 hb3 hb4 hb5 hsz
  go_wp2_with fail
  refine bodyPost_ret (v := .tuple #[.pointer (some ⟨w1.heap.size, 0, none⟩), .int .i64 0]) (by simp [results, Tryz.results35, go_sem]) rfl ?_
  refine ⟨w1.heap.size, sb, ma, mp, lb, mb, rfl, ⟨heap_new' rfl, hS.grown (grown_alloc (grown_refl _) _)⟩, ?_, by omega, by omega, by omega, by omega, by omega, by omega⟩
  exact grown_alloc (grown_trans (grown_alloc (grown_refl w) _) hg) _

end Go.Proofs.YtachmkhbbbmioaaGreat
