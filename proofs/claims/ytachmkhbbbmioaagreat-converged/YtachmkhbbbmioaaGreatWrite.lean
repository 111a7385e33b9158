import Derived.Test.YtachmkhbbbmioaaGreatFullX
import Derived.StillTailTactics
namespace Go.Proofs.YtachmkhbbbmioaaGreat
open Go.RowKit Go.Shelf
attribute [local go_sem ↓] Go.wp_at_zero Go.wp_at_succ
attribute [local simp] entsAt_drew entsAt_setCell entsAt_alloc

set_option maxRecDepth 100000 in
set_option maxHeartbeats 2000000 in
theorem write_ins (sb ma mp lb mb : Nat) (S : CS) (A R : List El) (e : El) (w : World) (hS : StAt sb ma mp lb mb S w) (h1 : 1 ≤ S.s) (h8 : S.s ≤ 8) (hv : 0 ≤ S.cl (S.s - 1)) (hv2 : S.cl (S.s - 1) ≤ 1000) (hg : 0 ≤ S.g) (hg2 : S.g ≤ 1099511627776)
    (hL : S.L = A ++ R) (hec : e.c = S.g + 1) (hek : e.k = S.s) (hf : fresh e (A ++ R)) (hd : e.d = false) :
    Calls Tryz.prog 109 #[.pointer (some ⟨sb, 0, none⟩), .int .i64 0, .agg #[.int .i64 (lc A), .int .i64 (lk A)], .int .i32 e.r] w fun r w' => r = .returned (.tuple #[]) ∧
      StAt sb ma mp lb mb { S with cl := bump S.cl (S.s - 1), g := S.g + 1, L := A ++ behind e R, ops := opIns S (lc A) (lk A) e.r :: S.ops } w' ∧ Fr (own3 sb ma mb) w w' := by
  go_enter Tryz.func109, Tryz.ntmps109
  go_wp2_with fail
  have hlt := hS.lts
  have g1 := grown_alloc (grown_refl w) (.cells #[.int .i64 (lc A), .int .i64 (lk A)] 152)
  have k3 : (w.alloc (.cells #[.int .i64 (lc A), .int .i64 (lk A)] 152)).heap[w.heap.size]? = some (.cells #[.int .i64 (lc A), .int .i64 (lk A)] 152) := by rw [heap_alloc_at]; simp
  have hS1 := hS.grown g1
  have hF1 : Fr (own3 sb ma mb) w (w.alloc (.cells #[.int .i64 (lc A), .int .i64 (lk A)] 152)) := (Fr.refl _ w).alloc _
  generalize (w.alloc (.cells #[.int .i64 (lc A), .int .i64 (lk A)] 152)) = w1 at g1 k3 hS1 hF1 ⊢
  have c1 : w1.cell? ⟨sb, 1, none⟩ = some (.int .i64 (S.s : Int)) := cell_blk hS1.st 1
  have q0 : w1.cell? ⟨sb, 2, none⟩ = some (.int .i64 (S.cl 0)) := cell_blk hS1.st 2
  have q1 : w1.cell? ⟨sb, 3, none⟩ = some (.int .i64 (S.cl 1)) := cell_blk hS1.st 3
  have q2 : w1.cell? ⟨sb, 4, none⟩ = some (.int .i64 (S.cl 2)) := cell_blk hS1.st 4
  have q3 : w1.cell? ⟨sb, 5, none⟩ = some (.int .i64 (S.cl 3)) := cell_blk hS1.st 5
  have q4 : w1.cell? ⟨sb, 6, none⟩ = some (.int .i64 (S.cl 4)) := cell_blk hS1.st 6
  have q5 : w1.cell? ⟨sb, 7, none⟩ = some (.int .i64 (S.cl 5)) := cell_blk hS1.st 7
  have q6 : w1.cell? ⟨sb, 8, none⟩ = some (.int .i64 (S.cl 6)) := cell_blk hS1.st 8
  have q7 : w1.cell? ⟨sb, 9, none⟩ = some (.int .i64 (S.cl 7)) := cell_blk hS1.st 9
  have c2 : w1.cell? ⟨sb, 10, none⟩ = some (.int .i64 S.g) := cell_blk hS1.st 10
  have t0 : w1.cell? ⟨w.heap.size, 0, none⟩ = some (.int .i64 (lc A)) := cell_blk k3 0
  have t1 : w1.cell? ⟨w.heap.size, 1, none⟩ = some (.int .i64 (lk A)) := cell_blk k3 1
  have c3 : w1.cell? ⟨sb, 2 + ((S.s : Int).toNat - 1), none⟩ = some (.int .i64 (S.cl (S.s - 1))) := by
    have := hS1.clock (S.s - 1) (by omega)
    simpa using this
  have hO := of_any sb 2 (S.s : Int) (by omega) (by omega) (S.cl (S.s - 1)) w1.drew c3
  have hS1d : StAt sb ma mp lb mb S w1.drew := hS1.grown (grown_drew (grown_refl w1))
  have hAp := apply_ins sb ma mp lb mb S (S.cl (S.s - 1) + 1) (S.g + 1) S.s S.cl A R e w1.drew hS1d h1 h8 hv (by omega) hL hec hek hf hd (by omega)
  simp only [opArr] at hAp
  clear hS1d c3 g1 k3 hlt
  refine wp_region_still_tail 28 (by kernel_rfl) (by kernel_rfl) ?_
  simp only [List.take_succ_cons, List.take_zero, List.drop_succ_cons, List.drop_zero]
  iterate 12 still_step
  still_call hO
  iterate 15 still_step
  refine wpStill_nil ?_
  simp only [World.drew_eq]
  go_wp2_with (go_at_call 133; refine hAp.mono ?_; rintro e w2 ⟨rfl, hS2, hF2⟩)
  go_end0
  have em : max S.g (S.g + 1) = S.g + 1 := by omega
  rw [em] at hS2
  exact ⟨rfl, hS2, hF1.drew.trans hF2⟩

set_option maxRecDepth 100000 in
set_option maxHeartbeats 2000000 in
theorem write_del (sb ma mp lb mb : Nat) (S : CS) (A R : List El) (x : El) (w : World) (hS : StAt sb ma mp lb mb S w) (h1 : 1 ≤ S.s) (h8 : S.s ≤ 8) (hv : 0 ≤ S.cl (S.s - 1)) (hv2 : S.cl (S.s - 1) ≤ 1000) (hg : 0 ≤ S.g) (hg2 : S.g ≤ 1099511627776)
    (hL : S.L = A ++ x :: R) :
    Calls Tryz.prog 109 #[.pointer (some ⟨sb, 0, none⟩), .int .i64 1, .agg #[.int .i64 x.c, .int .i64 x.k], .int .i32 0] w fun r w' => r = .returned (.tuple #[]) ∧
      StAt sb ma mp lb mb { S with cl := bump S.cl (S.s - 1), g := S.g + 1, L := A ++ gone x :: R, ops := opDel S x.c x.k :: S.ops } w' ∧ Fr (own3 sb ma mb) w w' := by
  go_enter Tryz.func109, Tryz.ntmps109
  go_wp2_with fail
  have hlt := hS.lts
  have g1 := grown_alloc (grown_refl w) (.cells #[.int .i64 x.c, .int .i64 x.k] 152)
  have k3 : (w.alloc (.cells #[.int .i64 x.c, .int .i64 x.k] 152)).heap[w.heap.size]? = some (.cells #[.int .i64 x.c, .int .i64 x.k] 152) := by rw [heap_alloc_at]; simp
  have hS1 := hS.grown g1
  have hF1 : Fr (own3 sb ma mb) w (w.alloc (.cells #[.int .i64 x.c, .int .i64 x.k] 152)) := (Fr.refl _ w).alloc _
  generalize (w.alloc (.cells #[.int .i64 x.c, .int .i64 x.k] 152)) = w1 at g1 k3 hS1 hF1 ⊢
  have c1 : w1.cell? ⟨sb, 1, none⟩ = some (.int .i64 (S.s : Int)) := cell_blk hS1.st 1
  have q0 : w1.cell? ⟨sb, 2, none⟩ = some (.int .i64 (S.cl 0)) := cell_blk hS1.st 2
  have q1 : w1.cell? ⟨sb, 3, none⟩ = some (.int .i64 (S.cl 1)) := cell_blk hS1.st 3
  have q2 : w1.cell? ⟨sb, 4, none⟩ = some (.int .i64 (S.cl 2)) := cell_blk hS1.st 4
  have q3 : w1.cell? ⟨sb, 5, none⟩ = some (.int .i64 (S.cl 3)) := cell_blk hS1.st 5
  have q4 : w1.cell? ⟨sb, 6, none⟩ = some (.int .i64 (S.cl 4)) := cell_blk hS1.st 6
  have q5 : w1.cell? ⟨sb, 7, none⟩ = some (.int .i64 (S.cl 5)) := cell_blk hS1.st 7
  have q6 : w1.cell? ⟨sb, 8, none⟩ = some (.int .i64 (S.cl 6)) := cell_blk hS1.st 8
  have q7 : w1.cell? ⟨sb, 9, none⟩ = some (.int .i64 (S.cl 7)) := cell_blk hS1.st 9
  have c2 : w1.cell? ⟨sb, 10, none⟩ = some (.int .i64 S.g) := cell_blk hS1.st 10
  have t0 : w1.cell? ⟨w.heap.size, 0, none⟩ = some (.int .i64 x.c) := cell_blk k3 0
  have t1 : w1.cell? ⟨w.heap.size, 1, none⟩ = some (.int .i64 x.k) := cell_blk k3 1
  have c3 : w1.cell? ⟨sb, 2 + ((S.s : Int).toNat - 1), none⟩ = some (.int .i64 (S.cl (S.s - 1))) := by
    have := hS1.clock (S.s - 1) (by omega)
    simpa using this
  have hO := of_any sb 2 (S.s : Int) (by omega) (by omega) (S.cl (S.s - 1)) w1.drew c3
  have hS1d : StAt sb ma mp lb mb S w1.drew := hS1.grown (grown_drew (grown_refl w1))
  have hAp := apply_del sb ma mp lb mb S (S.cl (S.s - 1) + 1) (S.g + 1) S.s S.cl A R x w1.drew hS1d h1 h8 hv (by omega) hL
  simp only [opArr] at hAp
  clear hS1d c3 g1 k3 hlt
  refine wp_region_still_tail 28 (by kernel_rfl) (by kernel_rfl) ?_
  simp only [List.take_succ_cons, List.take_zero, List.drop_succ_cons, List.drop_zero]
  iterate 12 still_step
  still_call hO
  iterate 15 still_step
  refine wpStill_nil ?_
  simp only [World.drew_eq]
  go_wp2_with (go_at_call 133; refine hAp.mono ?_; rintro e w2 ⟨rfl, hS2, hF2⟩)
  go_end0
  have em : max S.g (S.g + 1) = S.g + 1 := by omega
  rw [em] at hS2
  exact ⟨rfl, hS2, hF1.drew.trans hF2⟩

end Go.Proofs.YtachmkhbbbmioaaGreat
