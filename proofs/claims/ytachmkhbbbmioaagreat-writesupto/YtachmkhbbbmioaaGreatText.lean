import Derived.Test.YtachmkhbbbmioaaGreatReads
import Derived.Test.YtachmkhbbbmioaaGreatBuilder
namespace Go.Proofs.YtachmkhbbbmioaaGreat
open Go.RowKit Go.Shelf
attribute [local go_sem] Oper.semAt_some

/-- The UTF-8 of the elements' runes. -/
def txt (L : List El) : List UInt8 := L.flatMap fun x => Lib.encodeRune x.r

theorem txt_snoc (L : List El) (x : El) : txt (L ++ [x]) = txt L ++ Lib.encodeRune x.r := by simp [txt]
theorem txt_le (L : List El) : (txt L).length ≤ 4 * L.length := by
  induction L with
  | nil => simp [txt]
  | cons x L ih =>
    have h1 := (Lib.runeCells_le x.r).2
    rw [Lib.runeCells_length] at h1
    simp only [txt, List.flatMap_cons, List.length_append, List.length_cons] at ih ⊢
    omega

theorem builderAt_kept {A B : World} {row : Option Nat} {T e : TypeId} {base b : Nat} {p : Value} {bs : List Value} (h : Lib.BuilderAtF T e base b p bs A) (hg : A.grownBy B row) (hr : ∀ r, row = some r → ∃ o : Obj, A.heap[r]? = some o ∧ o.isCells = false) : Lib.BuilderAtF T e base b p bs B := by
  obtain ⟨hB, v, hb, hown, hne⟩ := h
  refine ⟨hB, v, blk_kept hb hg hr, hown.kept hg ?_, hne⟩
  rcases hown.2 with ⟨hv, _⟩ | ⟨g, cap, cur, fz, hv, _, hh, _⟩
  · left; rw [hv]; rfl
  · right
    rw [hv]
    intro e
    obtain ⟨o, ho, hc⟩ := hr g e.symm
    rw [hh] at ho; cases ho; cases hc

theorem own_builder {β : Type} (T e : TypeId) (B b : Nat) (f : β → List Value) : Own (fun s W => Lib.IsBuilderF T e B b (f s) W) := fun _ _ _ _ hs hg hr =>
  hs.elim (fun h => .inl (builderAt_kept h hg hr)) (fun h => .inr (builderAt_kept h hg hr))

theorem kpt_others {w w' : World} {b : Nat} {c : Array Value} {f : Nat × Nat} (hs : w.heap.size ≤ w'.heap.size) (hb : w.heap[b]? = some (.cells c 179 f)) (h : Lib.OthersKept 5 (some b) w w') : Kpt w w' := by
  refine ⟨hs, fun k o hk ht => h k o hk ?_ ?_⟩
  · intro e; cases e; rw [hb] at hk; cases hk; cases ht
  · intro c fz e; subst e; cases ht
theorem keeps_others {w w' : World} {b : Nat} {c : Array Value} {e : TypeId} {f : Nat × Nat} (hs : w.heap.size ≤ w'.heap.size) (hb : w.heap[b]? = some (.cells c e f)) (h : Lib.OthersKept 5 (some b) w w') : KeepsOthers w w' := by
  refine ⟨hs, fun k o hk ht => h k o hk ?_ ?_⟩
  · intro e; cases e; rw [hb] at hk; cases hk; cases ht
  · intro c fz e; subst e; cases ht

theorem builder_blk {T e : TypeId} {B b : Nat} {bs : List Value} {w : World} (h : Lib.IsBuilderF T e B b bs w) : ∃ c, w.heap[b]? = some (.cells c T) := by
  rcases h with ⟨_, v, hb, _⟩ | ⟨_, v, hb, _⟩ <;> exact ⟨_, hb⟩

set_option maxRecDepth 100000 in
set_option maxHeartbeats 2000000 in
theorem text_any (lb mb : Nat) (E : List Ent) (L : List El) (w : World) (hl : Ln lb mb E w) (hL : LineIs E L) (hb : (vis L).length ≤ 1000000) :
    Calls Tryz.prog 85 #[.pointer (some ⟨lb, 0, none⟩)] w fun e w' => e = .returned (.string ⟨(txt (vis L)).toArray⟩) ∧ Below w.heap.size w w' := by
  refine (callsIn_wide (n := 4)).1 ?_
  refine callsIn_of_wp_marks Tryz.func85 rfl trivial ?_ rfl
  simp only [Tryz.ntmps85, List.size_toArray, List.length_cons, List.length_nil, Nat.reduceAdd, Nat.reduceSub, Array.replicate_succ, Array.replicate_zero, List.push_toArray, List.append_toArray, List.nil_append, List.cons_append]
  gi_wp2_with (refine ⟨trivial, ?_⟩; gi_at_call 119; refine (callsIn_wide.2 (there_any _ _)).mono ?_; rintro e w' ⟨rfl, rfl⟩)
  have hl1 := hl.grown (grown_alloc (grown_refl w) (.cells #[.pointer none, .slice none 0 0] 179))
  have hI := hl1.it
  simp only [World.size_alloc] at hI
  have hB0 : Below w.heap.size w ((w.alloc (.cells #[.pointer none, .slice none 0 0] 179)).alloc (.cells #[.pointer (some ⟨lb, 0, none⟩)] 136)) := ((Below.refl _ w).alloc (Nat.le_refl _) _).alloc (by simp) _
  have hbu : Lib.IsBuilderF 179 5 w.heap.size w.heap.size [] ((w.alloc (.cells #[.pointer none, .slice none 0 0] 179)).alloc (.cells #[.pointer (some ⟨lb, 0, none⟩)] 136)) :=
    .inl ⟨Nat.le_refl _, .slice none 0 0, by simp only [heap_alloc_at, World.size_alloc]; simp, World.ownsRowF_nil _ _ _ _, by simp [Value.ownBlock]⟩
  refine wpIn_rangeFunc_ownF (F := Fence.wide) rfl (by omega) (gf := 147) (lb := #[.pointer (some ⟨w.heap.size + 1, 0, none⟩)]) rfl trivial (enters_of Tryz.func147 (by kernel_rfl) rfl)
    (there_stops 3 (by omega) (w.heap.size + 1) lb mb E L _ hI hL) kpt_t (kpt_b _) (Below.refl _ _) (fun _ => rfl)
    (fun pre W => Lib.IsBuilderF 179 5 w.heap.size w.heap.size (Lib.byteCells (txt pre)) W ∧ Below w.heap.size w W)
    (fun _ _ _ => False)
    (OwnFrom.and (Own.from (own_builder 179 5 w.heap.size w.heap.size (fun pre : List El => Lib.byteCells (txt pre))) _) (ownFrom_below (Nat.le_refl _) (by simp; omega)))
    (fun _ _ _ _ _ hs _ _ => hs)
    ⟨hbu, hB0⟩
    (fun x => { tmps := #[.pointer (some ⟨lb, 0, none⟩), undef, .string { data := #[] }, .pointer (some ⟨w.heap.size, 0, none⟩), undef, .int .i32 x.r, .pointer (some ⟨lb, 0, none⟩), .func (.func 147) #[] #[.pointer (some ⟨w.heap.size + 1, 0, none⟩)], .agg #[.int .i64 x.c, .int .i64 x.k], .int .i32 x.r, undef, undef, undef], defers := [] }) ?assign ?body ?done ?stop
  case assign =>
    intro l x W K hK
    simp only [encs]
    gi_wp2
    simpa [encs] using hK
  case body =>
    rintro l pre x W ⟨hc, hB⟩ hlen
    have hbl := (txt_le pre)
    have hr := x.ok
    unfold Sc at hr
    gi_wp2_with (refine ⟨trivial, ?_⟩; gi_at_call 120; refine (CallsIn.inRound l (callsIn_wide.2 (writeRune_any w.heap.size w.heap.size (Lib.byteCells (txt pre)) x.r (by omega) (by omega) W hc (by rw [Lib.byteCells_length]; omega) hB.size))).mono ?_)
    rintro e w1 ⟨rfl, h1, h2, h3⟩
    gi_wp2
    obtain ⟨c, hcb⟩ := builder_blk hc
    refine ⟨keeps_others h2.size hcb h3, kpt_others h2.size hcb h3, .inr ?_, hB.trans h2⟩
    rw [txt_snoc, Lib.byteCells_append, Lib.byteCells_encodeRune]; exact h1
  case done =>
    rintro D ys W hD rfl ⟨hc, hB⟩ hK
    gi_wp2_with (refine ⟨trivial, ?_⟩; gi_at_call 121; refine (callsIn_wide.2 (Builder_String_any_k w.heap.size w.heap.size (txt (vis L)) W hc hB.size)).mono ?_)
    rintro e w1 ⟨rfl, h1, h2, h3⟩
    obtain ⟨c, hcb⟩ := builder_blk hc
    have hK1 := (keeps_others h2.size hcb h3).same D _ hK rfl
    gi_wp2
    refine ⟨by simp, .inl ⟨_, _, rfl, run_takeDeferred hK1, ?_⟩⟩
    exact ⟨_, results_tmp rfl _ _ _, rfl, (hB.trans h2).trans (belowK_b (w := w) (Nat.le_refl _) w1 D _ _ (by simp at hD; omega) hK1 rfl rfl)⟩
  case stop =>
    rintro D c pre W _ _ h _
    exact h.elim

end Go.Proofs.YtachmkhbbbmioaaGreat
