import Derived.Test.YtachmkhbbbmioaaGreatLawW
namespace Go.Proofs.YtachmkhbbbmioaaGreat
open Go.RowKit Go.Shelf

theorem After.pre {x : Pr} {w w1 w2 : World} (h : After x w1 w2) (g : w.grownBy w1 none) : After x w w2 := by
  obtain ⟨x', hP, h1, h2, hF, hO⟩ := h
  exact ⟨x', hP, h1, h2, ((Fr.refl _ w).grown g (by simp)).trans hF, hO.mono g.size⟩

theorem LawAt.same {base wb : Nat} {vl vi : Value} {prs : List Pr} {irs : List IR} {w w2 : World} {j : Nat} {x : Pr} (h : LawAt base wb vl vi prs irs w) (hj : prs[j]? = some x) (hP : PairAt x w2) (hF : Fr x.own w w2) (hb : base ≤ w.heap.size) :
    LawAt base wb vl vi prs irs w2 ∧ Below base w w2 := by
  obtain ⟨ow, o1, o2, o3⟩ := h.ow
  have hl := h.lts
  have key : ∀ k, k < w.heap.size → ow k ≠ 2 * j + 1 → w2.heap[k]? = w.heap[k]? := fun k hk hn => hF.block k hk (fun q => hn (o2 j x hj k q).1)
  refine ⟨⟨?_, ?_, ?_, ?_, ?_, ow, o1, o2, o3⟩, hF.toBelow hb (fun k hk => (o2 j x hj k hk).2)⟩
  · exact (key wb (lt_of_heap h.cp) (by rw [(o1 wb (by simp [lawOwn])).1]; omega)).trans h.cp
  · exact h.l.kept (fun g hg => key g (h.l.lt hg) (by rw [(o1 g (by simp [lawOwn, hg])).1]; omega))
  · exact h.i.kept (fun g hg => key g (h.i.lt hg) (by rw [(o1 g (by simp [lawOwn, hg])).1]; omega))
  · intro i y hi
    by_cases q : j = i
    · subst q
      rw [hj] at hi
      cases hi
      exact hP
    · exact (h.pr i y hi).kept (fun k hk => key k (hl.pr i y hi k hk) (by rw [(o2 i y hi k hk).1]; omega))
  · intro i r hi
    exact (h.ir i r hi).kept (fun k hk => key k (hl.ir i r hi k hk) (by rw [(o3 i r hi k hk).1]; omega))

set_option maxRecDepth 100000 in
set_option maxHeartbeats 2000000 in
/-- Insert, Delete on both sides. -/
theorem writes_any (wb : Nat) (x : Pr) (k C A B : Int) (s : ByteArray) (w : World) (h : PairAt x w) :
    Calls Tryz.prog 65 #[.pointer (some ⟨wb, 0, none⟩), .agg #[.pointer (some ⟨x.cb, 0, none⟩), .pointer (some ⟨x.yb, 0, none⟩)], .agg #[.int .i64 k, .int .i64 C, .int .i64 A, .int .i64 B, .string s]] w fun e w' => e = .returned (.bool true) ∧ After x w w' := by
  have hlt := h.lt
  have g1 : w.grownBy ((w.alloc (.cells #[.pointer (some ⟨x.cb, 0, none⟩), .pointer (some ⟨x.yb, 0, none⟩)] 39)).alloc (.cells #[.int .i64 k, .int .i64 C, .int .i64 A, .int .i64 B, .string s] 72)) none := grown_alloc (grown_alloc (grown_refl _) _) _
  have k1 : ((w.alloc (.cells #[.pointer (some ⟨x.cb, 0, none⟩), .pointer (some ⟨x.yb, 0, none⟩)] 39)).alloc (.cells #[.int .i64 k, .int .i64 C, .int .i64 A, .int .i64 B, .string s] 72)).heap[w.heap.size]? = some (.cells #[.pointer (some ⟨x.cb, 0, none⟩), .pointer (some ⟨x.yb, 0, none⟩)] 39) := by
    rw [Below.heap_alloc _ _ _ (by simp), heap_alloc_at]; simp
  have k2 : ((w.alloc (.cells #[.pointer (some ⟨x.cb, 0, none⟩), .pointer (some ⟨x.yb, 0, none⟩)] 39)).alloc (.cells #[.int .i64 k, .int .i64 C, .int .i64 A, .int .i64 B, .string s] 72)).heap[w.heap.size + 1]? = some (.cells #[.int .i64 k, .int .i64 C, .int .i64 A, .int .i64 B, .string s] 72) := by
    rw [heap_alloc_at]; simp
  go_enter Tryz.func65, Tryz.ntmps65
  go_upto_region 1 with fail
  generalize ((w.alloc (.cells #[.pointer (some ⟨x.cb, 0, none⟩), .pointer (some ⟨x.yb, 0, none⟩)] 39)).alloc (.cells #[.int .i64 k, .int .i64 C, .int .i64 A, .int .i64 B, .string s] 72)) = w1 at g1 k1 k2 ⊢
  have h1 : PairAt x w1 := h.kept (fun k hk => g1.block k (hlt k hk) (by simp))
  have n1 : w.heap.size ∉ x.own := fun q => by have := hlt _ q; omega
  have n2 : w.heap.size + 1 ∉ x.own := fun q => by have := hlt _ q; omega
  generalize w.heap.size + 1 = b2 at k2 n2 ⊢
  generalize w.heap.size = b1 at k1 n1 ⊢
  have a0 : w1.cell? ⟨b2, 0, none⟩ = some (.int .i64 k) := cell_blk k2 0
  have a2 : w1.cell? ⟨b2, 2, none⟩ = some (.int .i64 A) := cell_blk k2 2
  have a3 : w1.cell? ⟨b2, 3, none⟩ = some (.int .i64 B) := cell_blk k2 3
  have d0 : w1.cell? ⟨b1, 0, none⟩ = some (.pointer (some ⟨x.cb, 0, none⟩)) := cell_blk k1 0
  by_cases hk : k = 1
  · subst hk
    obtain ⟨r, hr⟩ : ∃ r, IntKind.i32.wrap B = r := ⟨_, rfl⟩
    have hr2 : IntKind.i64.wrap r = r := by subst hr; rw [IntKind.wrap_i32, IntKind.wrap_i64]; omega
    obtain ⟨code, hcode⟩ := pair_ins x A r w1 h1
    have hC := hide hcode
    clear hcode
    go_wp2_with fail
    refine hC.out.mono ?_
    rintro e w2 ⟨rfl, hF, hN⟩
    have hN2 := hide hN
    clear hN
    have kk1 := hF.blk k1 n1
    have kk2 := hF.blk k2 n2
    have aa2 : w2.cell? ⟨b2, 2, none⟩ = some (.int .i64 A) := cell_blk kk2 2
    have dd1 : w2.cell? ⟨b1, 1, none⟩ = some (.pointer (some ⟨x.yb, 0, none⟩)) := cell_blk kk1 1
    go_wp2_with fail
    refine hN2.out.mono ?_
    rintro e w3 ⟨rfl, hA⟩
    have he : (code == code) = true := by simp
    go_wp2_with fail
    go_ret
    exact ⟨rfl, hA.pre g1⟩
  · obtain ⟨code, hcode⟩ := pair_del x A w1 h1
    have hC := hide hcode
    clear hcode
    go_wp2_with fail
    refine hC.out.mono ?_
    rintro e w2 ⟨rfl, hF, hN⟩
    have hN2 := hide hN
    clear hN
    have kk1 := hF.blk k1 n1
    have kk2 := hF.blk k2 n2
    have aa2 : w2.cell? ⟨b2, 2, none⟩ = some (.int .i64 A) := cell_blk kk2 2
    have dd1 : w2.cell? ⟨b1, 1, none⟩ = some (.pointer (some ⟨x.yb, 0, none⟩)) := cell_blk kk1 1
    go_wp2_with fail
    refine hN2.out.mono ?_
    rintro e w3 ⟨rfl, hA⟩
    have he : (code == code) = true := by simp
    go_wp2_with fail
    go_ret
    exact ⟨rfl, hA.pre g1⟩

end Go.Proofs.YtachmkhbbbmioaaGreat
