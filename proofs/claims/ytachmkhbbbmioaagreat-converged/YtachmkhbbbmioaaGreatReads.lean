import Derived.Test.YtachmkhbbbmioaaGreatThere
import Derived.RangeFuncBox
namespace Go.Proofs.YtachmkhbbbmioaaGreat
open Go.RowKit Go.Shelf
attribute [local go_sem] Oper.semAt_some

/-- The line at block lb: its map lies at block mb and has the entries E. -/
structure Ln (lb mb : Nat) (E : List Ent) (w : World) : Prop where
  line : w.heap[lb]? = some (.cells #[.map (some mb)] 206)
  ents : entsAt w mb E

theorem Ln.it {lb mb : Nat} {E : List Ent} {w : World} (h : Ln lb mb E w) : It w.heap.size lb mb E (w.alloc (.cells #[.pointer (some ⟨lb, 0, none⟩)] 136)) :=
  ⟨by rw [heap_alloc_at]; simp, (Below.heap_alloc _ _ _ (lt_of_heap h.line)).trans h.line, entsAt_alloc h.ents⟩
theorem Ln.grown {lb mb : Nat} {E : List Ent} {w w' : World} (h : Ln lb mb E w) (g : w.grownBy w' none) : Ln lb mb E w' := ⟨blk_grown h.line g, h.ents.of_block (g.block _ h.ents.lt (by simp))⟩

theorem frozen_blk {w : World} {b : Nat} {c : Array Value} {e : TypeId} (h : w.heap[b]? = some (.cells c e)) (i : Nat) : w.frozen? ⟨b, i, none⟩ = false := by simp [World.frozen?, h]
theorem set_blk {w : World} {b : Nat} {c : Array Value} {e : TypeId} {f : Nat × Nat} (h : w.heap[b]? = some (.cells c e f)) {i : Nat} {v : Value} : (w.setCell ⟨b, i, none⟩ v).heap[b]? = some (.cells (c.setIfInBounds i v) e f) := by
  simp [World.setCell, Array.getElem?_modify, h]
theorem blk_kept {A B : World} {row : Option Nat} {b : Nat} {c : Array Value} {e : TypeId} {f : Nat × Nat} (h : A.heap[b]? = some (.cells c e f)) (hg : A.grownBy B row) (hr : ∀ r, row = some r → ∃ o : Obj, A.heap[r]? = some o ∧ o.isCells = false) : B.heap[b]? = some (.cells c e f) := by
  refine (hg.block _ (lt_of_heap h) (fun e => ?_)).trans h
  obtain ⟨o, ho, hc⟩ := hr b e.symm
  rw [h] at ho; cases ho; cases hc

theorem own_blk {β : Type} (b : Nat) (c : β → Array Value) (e : TypeId) (f : Nat × Nat) : Own (fun s W => W.heap[b]? = some (.cells (c s) e f)) := fun _ _ _ _ hs hg hr => blk_kept hs hg hr

set_option maxRecDepth 100000 in
set_option maxHeartbeats 2000000 in
theorem len_any (lb mb : Nat) (E : List Ent) (L : List El) (w : World) (hl : Ln lb mb E w) (hL : LineIs E L) (hb : (vis L).length ≤ 1000000) :
    Calls Tryz.prog 104 #[.pointer (some ⟨lb, 0, none⟩)] w fun e w' => e = .returned (.int .i64 (vis L).length) ∧ Below w.heap.size w w' := by
  refine (callsIn_wide (n := 4)).1 ?_
  refine callsIn_of_wp_marks Tryz.func104 rfl trivial ?_ rfl
  simp only [Tryz.ntmps104, List.size_toArray, List.length_cons, List.length_nil, Nat.reduceAdd, Nat.reduceSub, Array.replicate_succ, Array.replicate_zero, List.push_toArray, List.append_toArray, List.nil_append, List.cons_append]
  gi_wp2_with (refine ⟨trivial, ?_⟩; gi_at_call 119; refine (callsIn_wide.2 (there_any _ _)).mono ?_; rintro e w' ⟨rfl, rfl⟩)
  have hI : It (w.heap.size + 1) lb mb E ((w.alloc (.cells #[.int .i64 0] 3)).alloc (.cells #[.pointer (some ⟨lb, 0, none⟩)] 136)) := by
    have := (hl.grown (grown_alloc (grown_refl w) (.cells #[.int .i64 0] 3))).it
    simpa using this
  have hB0 : Below w.heap.size w ((w.alloc (.cells #[.int .i64 0] 3)).alloc (.cells #[.pointer (some ⟨lb, 0, none⟩)] 136)) := ((Below.refl _ w).alloc (Nat.le_refl _) _).alloc (by simp) _
  refine wpIn_rangeFunc_ownF (F := Fence.wide) rfl (by omega) (gf := 147) (lb := #[.pointer (some ⟨w.heap.size + 1, 0, none⟩)]) rfl trivial (enters_of Tryz.func147 (by kernel_rfl) rfl)
    (there_stops 3 (by omega) (w.heap.size + 1) lb mb E L _ hI hL) kpt_t (kpt_b _) (Below.refl _ _) (fun _ => rfl)
    (fun pre W => (W.heap[w.heap.size]? = some (.cells #[.int .i64 pre.length] 3)) ∧ Below w.heap.size w W)
    (fun _ _ _ => False)
    (OwnFrom.and (Own.from (own_blk w.heap.size (fun pre : List El => #[.int .i64 pre.length]) 3 (0, 0)) _) (ownFrom_below (Nat.le_refl _) (by simp; omega)))
    (fun _ _ _ _ _ hs _ _ => hs)
    ⟨by simp only [heap_alloc_at, World.size_alloc]; simp, hB0⟩
    (fun x => { tmps := #[.pointer (some ⟨lb, 0, none⟩), undef, .int .i64 0, .pointer (some ⟨w.heap.size, 0, none⟩), .pointer (some ⟨lb, 0, none⟩), .func (.func 147) #[] #[.pointer (some ⟨w.heap.size + 1, 0, none⟩)], .agg #[.int .i64 x.c, .int .i64 x.k], .int .i32 x.r, undef, undef, undef], defers := [] }) ?assign ?body ?done ?stop
  case assign =>
    intro l x W K hK
    gi_wp2
    simpa [encs] using hK
  case body =>
    rintro l pre x W ⟨hc, hB⟩ hlen
    have hc0 : W.cell? ⟨w.heap.size, 0, none⟩ = some (.int .i64 pre.length) := cell_blk hc 0
    have hf0 : W.frozen? ⟨w.heap.size, 0, none⟩ = false := frozen_blk hc 0
    have hp : (pre.length : Int) ≤ 1000000 := by omega
    gi_wp2
    refine ⟨KeepsOthers.setCell _ _ _, Kpt.setCell hc rfl 0 _, ?_, hB.setCell (p := ⟨w.heap.size, 0, none⟩) (Nat.le_refl _) _⟩
    rw [set_blk hc]; simp
  case done =>
    rintro D ys W hD rfl ⟨hc, hB⟩ hK
    have hc0 : W.cell? ⟨w.heap.size, 0, none⟩ = some (.int .i64 (vis L).length) := cell_blk hc 0
    gi_wp2
    refine ⟨by simp, .inl ⟨_, _, rfl, run_takeDeferred hK, ?_⟩⟩
    exact ⟨_, results_tmp rfl _ _ _, rfl, hB.trans (belowK_b (w := w) (Nat.le_refl _) W D _ _ (by simp at hD; omega) hK rfl rfl)⟩
  case stop =>
    rintro D c pre W _ _ h _
    exact h.elim

theorem prefix_get {α : Type} {pre xs : List α} {x : α} (h : pre ++ [x] <+: xs) : xs[pre.length]? = some x := by
  obtain ⟨t, rfl⟩ := h
  simp

set_option maxRecDepth 100000 in
set_option maxHeartbeats 2000000 in
theorem markAt_any (lb mb : Nat) (E : List Ent) (L : List El) (p : Nat) (x : El) (w : World) (hl : Ln lb mb E w) (hL : LineIs E L) (hb : (vis L).length ≤ 1000000) (hx : (vis L)[p]? = some x) :
    Calls Tryz.prog 108 #[.pointer (some ⟨lb, 0, none⟩), .int .i64 p] w fun e w' => e = .returned (.agg #[.int .i64 x.c, .int .i64 x.k]) ∧ Below w.heap.size w w' := by
  have hp : p < (vis L).length := (List.getElem?_eq_some_iff.1 hx).1
  have HX : Hid ((vis L)[p]? = some x) := hx
  clear hx
  refine (callsIn_wide (n := 4)).1 ?_
  refine callsIn_of_wp_marks Tryz.func108 rfl trivial ?_ rfl
  simp only [Tryz.ntmps108, List.size_toArray, List.length_cons, List.length_nil, Nat.reduceAdd, Nat.reduceSub, Array.replicate_succ, Array.replicate_zero, List.push_toArray, List.append_toArray, List.nil_append, List.cons_append]
  gi_wp2_with (refine ⟨trivial, ?_⟩; gi_at_call 119; refine (callsIn_wide.2 (there_any _ _)).mono ?_; rintro e w' ⟨rfl, rfl⟩)
  have hl3 := hl.grown (grown_alloc (grown_alloc (grown_alloc (grown_refl w) (.cells #[.int .i64 p] 3)) (.cells #[.int .i64 0, .int .i64 0] 152)) (.cells #[.int .i64 0] 3))
  have hI := hl3.it
  simp only [World.size_alloc] at hI
  have hB0 : Below w.heap.size w ((((w.alloc (.cells #[.int .i64 p] 3)).alloc (.cells #[.int .i64 0, .int .i64 0] 152)).alloc (.cells #[.int .i64 0] 3)).alloc (.cells #[.pointer (some ⟨lb, 0, none⟩)] 136)) :=
    ((((Below.refl _ w).alloc (Nat.le_refl _) _).alloc (by simp) _).alloc (by simp; omega) _).alloc (by simp; omega) _
  have k0 : ((((w.alloc (.cells #[.int .i64 p] 3)).alloc (.cells #[.int .i64 0, .int .i64 0] 152)).alloc (.cells #[.int .i64 0] 3)).alloc (.cells #[.pointer (some ⟨lb, 0, none⟩)] 136)).heap[w.heap.size]? = some (.cells #[.int .i64 p] 3) := by
    simp only [heap_alloc_at, World.size_alloc]
    rw [if_neg (by omega), if_neg (by omega), if_neg (by omega), if_pos trivial]
  have k1 : ((((w.alloc (.cells #[.int .i64 p] 3)).alloc (.cells #[.int .i64 0, .int .i64 0] 152)).alloc (.cells #[.int .i64 0] 3)).alloc (.cells #[.pointer (some ⟨lb, 0, none⟩)] 136)).heap[w.heap.size + 1]? = some (.cells #[.int .i64 0, .int .i64 0] 152) := by
    simp only [heap_alloc_at, World.size_alloc]
    rw [if_neg (by omega), if_neg (by omega), if_pos trivial]
  have k2 : ((((w.alloc (.cells #[.int .i64 p] 3)).alloc (.cells #[.int .i64 0, .int .i64 0] 152)).alloc (.cells #[.int .i64 0] 3)).alloc (.cells #[.pointer (some ⟨lb, 0, none⟩)] 136)).heap[w.heap.size + 1 + 1]? = some (.cells #[.int .i64 0] 3) := by
    simp only [heap_alloc_at, World.size_alloc]
    rw [if_neg (by omega), if_pos trivial]
  obtain ⟨W0, hW0⟩ : ∃ W0, ((((w.alloc (.cells #[.int .i64 p] 3)).alloc (.cells #[.int .i64 0, .int .i64 0] 152)).alloc (.cells #[.int .i64 0] 3)).alloc (.cells #[.pointer (some ⟨lb, 0, none⟩)] 136)) = W0 := ⟨_, rfl⟩
  have hsz : W0.heap.size = w.heap.size + 4 := by rw [← hW0]; simp
  rw [hW0] at hI hB0 k0 k1 k2 ⊢
  clear hW0 hl3
  refine wpIn_rangeFunc_ownH (F := Fence.wide) rfl (by omega) (gf := 147) (lb := #[.pointer (some ⟨w.heap.size + 1 + 1 + 1, 0, none⟩)]) rfl trivial (enters_of Tryz.func147 (by kernel_rfl) rfl)
    (there_stops 3 (by omega) (w.heap.size + 1 + 1 + 1) lb mb E L W0 hI hL) kpt_t (kpt_b _) (Below.refl _ _) (fun _ => rfl)
    (fun pre W => ((W.heap[w.heap.size]? = some (.cells #[.int .i64 p] 3) ∧ W.heap[w.heap.size + 1]? = some (.cells #[.int .i64 0, .int .i64 0] 152)) ∧ W.heap[w.heap.size + 1 + 1]? = some (.cells #[.int .i64 pre.length] 3)) ∧ (pre.length ≤ p ∧ Below w.heap.size w W))
    (fun c pre W => (c = .ret ∧ ∃ pre' y, pre = pre' ++ [y] ∧ pre'.length = p ∧ W.heap[w.heap.size + 1]? = some (.cells #[.int .i64 y.c, .int .i64 y.k] 152)) ∧ Below w.heap.size w W)
    (OwnFrom.and (OwnFrom.and (OwnFrom.and (Own.from (own_blk w.heap.size (fun _ : List El => #[.int .i64 p]) 3 (0, 0)) _) (Own.from (own_blk (w.heap.size + 1) (fun _ : List El => #[.int .i64 0, .int .i64 0]) 152 (0, 0)) _)) (Own.from (own_blk (w.heap.size + 1 + 1) (fun pre : List El => #[.int .i64 pre.length]) 3 (0, 0)) _)) (OwnFrom.and (fun _ _ _ _ hs _ _ => hs) (ownFrom_below (Nat.le_refl _) (by omega))))
    (fun c => OwnFrom.and (Own.from (fun s A B row hs hg hr => by obtain ⟨h1, pre', y, h2, h3, h4⟩ := hs; exact ⟨h1, pre', y, h2, h3, blk_kept h4 hg hr⟩) _) (ownFrom_below (Nat.le_refl _) (by omega)))
    ⟨⟨⟨k0, k1⟩, by simpa using k2⟩, by simp, hB0⟩
    (fun x a' W => ∃ Bx, w.heap.size + 1 + 1 < Bx ∧ W.heap[Bx]? = some (.cells #[.int .i64 x.c, .int .i64 x.k] 152) ∧ a' = { tmps := #[.pointer (some ⟨lb, 0, none⟩), .int .i64 p, undef, .pointer (some ⟨w.heap.size, 0, none⟩), .pointer (some ⟨w.heap.size + 1, 0, none⟩), .pointer (some ⟨w.heap.size + 1 + 1, 0, none⟩), .pointer (some ⟨Bx, 0, none⟩), .pointer (some ⟨lb, 0, none⟩), .func (.func 147) #[] #[.pointer (some ⟨w.heap.size + 1 + 1 + 1, 0, none⟩)], .agg #[.int .i64 x.c, .int .i64 x.k], .int .i32 x.r, undef, undef, undef, undef, undef, undef, undef], defers := [] })
    (fun x a' _ X Y row hs hg hr => by obtain ⟨Bx, h1, h2, h3⟩ := hs; exact ⟨Bx, h1, blk_kept h2 hg (fun r e => (hr r e).2), h3⟩)
    ?assign ?body ?done ?stop
  case assign =>
    rintro l pre x W K ⟨⟨⟨j0, j1⟩, j2⟩, hle, hB⟩ hK
    have hW4 := lt_of_heap j2
    simp only [encs]
    gi_wp2
    have g : W.grownBy (W.alloc (.cells #[.int .i64 x.c, .int .i64 x.k] 152)) none := grown_alloc (grown_refl _) _
    exact hK _ _ ((KeepsOthers.alloc _ _).from _) (Kpt.grown g) ⟨⟨⟨blk_grown j0 g, blk_grown j1 g⟩, blk_grown j2 g⟩, hle, hB.alloc hB.size _⟩ ⟨W.heap.size, hW4, by rw [heap_alloc_at]; simp, by simp⟩
  case body =>
    rintro l pre y a' W hlW ⟨r, hr⟩ ⟨⟨⟨j0, j1⟩, j2⟩, hle, hB⟩ ⟨Bx, hBx, jx, rfl⟩ hlt
    have c0 : W.cell? ⟨w.heap.size, 0, none⟩ = some (.int .i64 p) := cell_blk j0 0
    have c2 : W.cell? ⟨w.heap.size + 1 + 1, 0, none⟩ = some (.int .i64 pre.length) := cell_blk j2 0
    have f2 : W.frozen? ⟨w.heap.size + 1 + 1, 0, none⟩ = false := frozen_blk j2 0
    have hp1 : (pre.length : Int) ≤ 1000000 := by omega
    by_cases e : pre.length = p
    · have c1 : W.cell? ⟨w.heap.size + 1, 0, none⟩ = some (.int .i64 0) := cell_blk j1 0
      have c1' : W.cell? ⟨w.heap.size + 1, 1, none⟩ = some (.int .i64 0) := cell_blk j1 1
      have f1 : W.frozen? ⟨w.heap.size + 1, 0, none⟩ = false := frozen_blk j1 0
      have f1' : W.frozen? ⟨w.heap.size + 1, 1, none⟩ = false := frozen_blk j1 1
      have cx : W.cell? ⟨Bx, 0, none⟩ = some (.int .i64 y.c) := cell_blk jx 0
      have cx' : W.cell? ⟨Bx, 1, none⟩ = some (.int .i64 y.k) := cell_blk jx 1
      have he : ((pre.length : Int) == (p : Int)) = true := by simp [e]
      have HE : Hid (pre.length = p) := e
      clear e
      gi_wp2
      exact ⟨((KeepsOthers.setCell _ _ _).trans (KeepsOthers.setCell _ _ _)).from _, ⟨rfl, pre, y, rfl, HE.out, by rw [set_blk (set_blk j1)]; simp⟩, (hB.setCell (p := ⟨w.heap.size + 1, 0, none⟩) (by simp) _).setCell (p := ⟨w.heap.size + 1, 1, none⟩) (by simp) _⟩
    · have he : ((pre.length : Int) == (p : Int)) = false := by simp; omega
      gi_wp2
      refine ⟨(KeepsOthers.setCell _ _ _).from _, Kpt.setCell j2 rfl 0 _, ⟨⟨?_, ?_⟩, ?_⟩, by simp; omega, hB.setCell (p := ⟨w.heap.size + 1 + 1, 0, none⟩) (by simp; omega) _⟩
      · rw [Below.heap_setCell _ _ _ _ (by simp; omega)]; exact j0
      · rw [Below.heap_setCell _ _ _ _ (by simp)]; exact j1
      · rw [set_blk j2]; simp
  case done =>
    rintro D ys W hD rfl ⟨_, hle, _⟩ hK
    omega
  case stop =>
    rintro D c pre W hD hpre ⟨⟨rfl, pre', y, rfl, hl2, hc⟩, hB⟩ hK
    have hy : y = x := by
      have h1 := prefix_get hpre
      rw [hl2, HX.out] at h1
      exact (Option.some.inj h1).symm
    subst hy
    gi_wp2
    refine ⟨by simp, .inl ⟨_, _, rfl, run_takeDeferred hK, ?_⟩⟩
    have hc5 := blk_kept hc (grownBy_putObj' _ D (.deferred none)) (fun r e => by cases e; exact ⟨_, hK, rfl⟩)
    have hq0 : (W.putObj D (.deferred none)).cell? ⟨w.heap.size + 1, 0, none⟩ = some (.int .i64 y.c) := cell_blk hc5 0
    have hq1 : (W.putObj D (.deferred none)).cell? ⟨w.heap.size + 1, 1, none⟩ = some (.int .i64 y.k) := cell_blk hc5 1
    refine ⟨.agg #[.int .i64 y.c, .int .i64 y.k], ?_, rfl, hB.trans (belowK_b (w := w) (Nat.le_refl _) W D _ _ (by omega) hK rfl rfl)⟩
    simp [results, Tryz.f108, go_sem, hq0, hq1]

end Go.Proofs.YtachmkhbbbmioaaGreat
