import Derived.Test.YtachmkhbbbmioaaGreatBuilderX
import Derived.Laws.CopyRow
import Derived.Deep.OwnRows
namespace Go.Proofs.YtachmkhbbbmioaaGreat
open Go.RowKit Go.Shelf

/-- The clock of the copies that there are, as cells. -/
def clCells (S : CS) : List Value := (List.range S.n).map (fun i => Value.int .i64 (S.cl i))

theorem infoInt : (Tryz.prog.info? 3).map (fun i => (i.zero, i.size, i.bytes)) = some (some (.int .i64 0), 1, 8) := by kernel_rfl

set_option maxRecDepth 100000 in
set_option maxHeartbeats 1000000 in
theorem stClock_any (sb ma mp lb mb : Nat) (S : CS) (hG : Good S) (w : World) (hS : StAt sb ma mp lb mb S w) :
    Calls Tryz.prog 62 #[.pointer (some ⟨sb, 0, none⟩)] w fun e w' => e = .returned (.slice (some ⟨w.heap.size, 0, none⟩) S.n S.n) ∧ w'.heap[w.heap.size]? = some (.cells (clCells S).toArray 3) ∧ Below w.heap.size w w' := by
  have c0 : w.cell? ⟨sb, 0, none⟩ = some (.int .i64 (S.n : Int)) := cell_blk hS.st 0
  have hn8 := hG.n8
  have hmk := fun w => run_make_row' (P := Tryz.prog) 40 3 (.int .i64 0) 8 Tryz.underlying40 infoInt rfl .i64 .i64 S.n (by omega) (by omega) w
  have hS1 := hS.grown (grown_alloc (grown_refl w) (.cells (madeCells #[.int .i64 0] S.n) 3))
  have hcp := run_copy_row (P := Tryz.prog) (w.alloc (.cells (madeCells #[.int .i64 0] S.n) 3)) 40 40 3 3 w.heap.size 0 S.n S.n ⟨sb, 2, none⟩ 8 8 (madeCells #[.int .i64 0] S.n) 3 (clCells S)
    Tryz.underlying40 (by kernel_rfl) (by rw [heap_alloc_at]; simp) (by simp [clCells, Nat.min_eq_right hn8]) (fun j v hj => by
      simp only [clCells, List.getElem?_map, Option.map_eq_some_iff] at hj
      obtain ⟨i, hi, rfl⟩ := hj
      obtain ⟨h1, h2⟩ := List.getElem?_eq_some_iff.1 hi
      simp at h1 h2
      subst h2
      have := hS1.clock j (by omega)
      cases j with
      | zero => simpa [Addr.add] using this
      | succ j => simpa [Addr.add] using this) (by rw [size_madeCells]; simp [clCells]) (by intro v hv; simp only [clCells, List.mem_map] at hv; obtain ⟨i, -, rfl⟩ := hv; rfl)
  go_enter Tryz.func62, Tryz.ntmps62
  go_wp2
  go_ret
  have hd : List.drop (clCells S).length (madeCells #[.int .i64 0] S.n).toList = [] := by
    apply List.drop_eq_nil_of_le
    rw [toList_madeCells_one]; simp [clCells]
  refine ⟨rfl, ?_, ?_⟩
  · rw [hd, List.append_nil]
    simp only [World.setRow, Array.getElem?_modify, heap_alloc_at]
    simp
  · refine ⟨rfl, rfl, rfl, by simp [World.setRow], fun k hk => ?_⟩
    simp only [World.setRow, Array.getElem?_modify]
    rw [if_neg (by omega)]
    exact Below.heap_alloc _ _ _ hk

end Go.Proofs.YtachmkhbbbmioaaGreat
