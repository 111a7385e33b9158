import Derived.Test.YtachmkhbbbmioaaGreatShelf
import Derived.WalkKit
import Derived.WalkLawsBesides
import Derived.WalkSpells
import Derived.KernelRfl
import Derived.Test.YtachmkhbbbmioaaGreatReads
import Derived.Test.YtachmkhbbbmioaaGreatWrite
namespace Go.Proofs.YtachmkhbbbmioaaGreat
open Go.RowKit Go.Shelf

theorem infoB : ∃ j, Tryz.prog.info? 179 = some j ∧ j.size = 2 := Option.map_eq_some_iff.1 (by kernel_rfl : (Tryz.prog.info? 179).map (·.size) = some 2)

set_option maxHeartbeats 1000000 in
set_option maxRecDepth 100000 in
theorem copyCheck_used (b : Nat) (w : World) (h0 : w.cell? ⟨b, 0, none⟩ = some (.pointer (some ⟨b, 0, none⟩))) :
    Calls Tryz.prog 148 #[.pointer (some ⟨b, 0, none⟩)] w fun e w' => e = .returned (.tuple #[]) ∧ w' = w := by
  obtain ⟨j, hj, _⟩ := infoB
  have hr := Lib.run_neq_ptr_same w ⟨b, 0, none⟩ Tryz.underlying177 hj
  clear hj
  go_enter Tryz.func148, Tryz.ntmps148
  go_wp2
  go_end0
  exact ⟨rfl, rfl⟩

set_option maxHeartbeats 1000000 in
set_option maxRecDepth 100000 in
theorem copyCheck_fresh (b : Nat) (w : World) (h0 : w.cell? ⟨b, 0, none⟩ = some (.pointer none)) (hsh : w.shape? b = some (179, 2)) (hfz : w.frozen? ⟨b, 0, none⟩ = false) :
    Calls Tryz.prog 148 #[.pointer (some ⟨b, 0, none⟩)] w fun e w' => e = .returned (.tuple #[]) ∧ w' = w.setCell ⟨b, 0, none⟩ (.pointer (some ⟨b, 0, none⟩)) := by
  obtain ⟨j, hj, hjs⟩ := infoB
  go_enter Tryz.func148, Tryz.ntmps148
  go_wp2
  rw [Lib.run_to_unsafe w ⟨b, 0, none⟩ Tryz.underlying177 Tryz.underlying174 hj (by rw [hjs]; decide) hsh (Nat.zero_lt_succ 1)]
  simp only [Result.andThen]
  rw [Oper.upon_value]
  go_wp2
  rw [run_callFunc_extern Tryz.func161 (by kernel_rfl) (by kernel_rfl) (by kernel_rfl) (e := Extern.AbiNoEscape.same) (by kernel_rfl)]
  rw [Lib.run_noEscape]
  simp only [Result.andThen]
  rw [Oper.upon_value]
  go_wp2
  rw [Lib.run_from_unsafe w ⟨b, 0, none⟩ Tryz.underlying174 Tryz.underlying177 hj hsh (by kernel_rfl)]
  simp only [Result.andThen]
  rw [Oper.upon_value]
  go_wp2
  go_end0
  exact ⟨rfl, rfl⟩

theorem copyCheck_any (B b : Nat) (bs : List Value) (w : World) (h : Lib.IsBuilderF 179 5 B b bs w) :
    Calls Tryz.prog 148 #[.pointer (some ⟨b, 0, none⟩)] w fun e w' => e = .returned (.tuple #[]) ∧ (Lib.BuilderAtF 179 5 B b (.pointer (some ⟨b, 0, none⟩)) bs w' ∧ Below B w w' ∧ Lib.OthersKept 5 (some b) w w') := by
  rcases h with h | h
  · refine (copyCheck_fresh b w h.cell0 h.shape h.frozen0).mono ?_
    rintro e w' ⟨rfl, rfl⟩
    exact ⟨rfl, h.used _, (Below.refl B w).setCell (p := ⟨b, 0, none⟩) h.1 _, (Lib.OthersKept.refl _ _ w).setCell ⟨b, 0, none⟩ rfl _⟩
  · refine (copyCheck_used b w h.cell0).mono ?_
    rintro e w' ⟨rfl, rfl⟩
    exact ⟨rfl, h, Below.refl B _, Lib.OthersKept.refl _ _ _⟩

set_option maxHeartbeats 4000000 in
set_option maxRecDepth 100000 in
theorem writeRune_any (B b : Nat) (bs : List Value) (r : Int) (hr0 : -2147483648 ≤ r) (hr1 : r ≤ 2147483647) (w : World) (h : Lib.IsBuilderF 179 5 B b bs w) (hlen : bs.length + 4 ≤ 140737488355328) (hBw : B ≤ w.heap.size) :
    Calls Tryz.prog 120 #[.pointer (some ⟨b, 0, none⟩), .int .i32 r] w fun e w' => e = .returned (.tuple #[.int .i64 (Lib.runeCells r).length, .nilIface]) ∧ (Lib.BuilderAtF 179 5 B b (.pointer (some ⟨b, 0, none⟩)) (bs ++ Lib.runeCells r) w' ∧ Below B w w' ∧ Lib.OthersKept 5 (some b) w w') := by
  have hk4 := Lib.runeCells_le r
  go_enter Tryz.func120, Tryz.ntmps120
  go_wp2_with (go_at_call 148; refine (copyCheck_any B b bs _ h).mono ?_)
  rintro e w1 ⟨rfl, h1, hb1, hk1⟩
  obtain ⟨hB, v, hbk, hown, hne⟩ := h1
  obtain ⟨ao, cap, rfl⟩ : ∃ ao cap, v = .slice ao bs.length cap := by
    rcases hown.2 with ⟨hv, h0⟩ | ⟨g, cap, cur, fz, hv, _⟩
    · exact ⟨none, 0, by rw [hv, h0]⟩
    · exact ⟨_, _, hv⟩
  have c0 : w1.cell? ⟨b, 0, none⟩ = some (.pointer (some ⟨b, 0, none⟩)) := by rw [Lib.cell_of_heap hbk]; rfl
  have c1 : w1.cell? ⟨b, 1, none⟩ = some (.slice ao bs.length cap) := by rw [Lib.cell_of_heap hbk]; rfl
  go_wp2_with (go_at_call 149; refine (utf8_AppendRune_row B _ bs.length bs r hr0 hr1 _ hown hlen (by have := hb1.size; omega)).mono ?_)
  rintro e w2 ⟨v', rfl, hown', o, hgrow⟩
  have hlt : b < w1.heap.size := by
    rcases Nat.lt_or_ge b w1.heap.size with h' | h'
    · exact h'
    · simp [Array.getElem?_eq_none h'] at hbk
  have hb2 : w2.heap[b]? = some (.cells #[.pointer (some ⟨b, 0, none⟩), .slice ao bs.length cap] 179 (0, 0)) := by
    rw [hgrow.block b (by simp; omega) (fun e => hne e.symm), Lib.alloc_old w1 _ b hlt]
    exact hbk
  have d0 : w2.cell? ⟨b, 0, none⟩ = some (.pointer (some ⟨b, 0, none⟩)) := by rw [Lib.cell_of_heap hb2]; rfl
  have d1 : w2.cell? ⟨b, 1, none⟩ = some (.slice ao bs.length cap) := by rw [Lib.cell_of_heap hb2]; rfl
  have f1 : w2.frozen? ⟨b, 1, none⟩ = false := Lib.frozen_of_heap hb2 1
  obtain ⟨g, cap', rfl⟩ : ∃ g cap', v' = .slice (some ⟨g, 0, none⟩) (bs.length + (Lib.runeCells r).length) cap' := by
    rcases hown'.2 with ⟨_, h0⟩ | ⟨g, cap', cur, fz, hv, _⟩
    · omega
    · exact ⟨g, cap', hv⟩
  go_wp2
  go_ret2
  refine ⟨?_, ?_, ?_, ((hk1.alloc _).grown hgrow (Lib.ownsRowF_kind (hown.alloc _))).setCell ⟨b, 1, none⟩ rfl _⟩
  · have e : ((bs.length : Int) + ((Lib.runeCells r).length : Int) - (bs.length : Int)) = ((Lib.runeCells r).length : Int) := by omega
    simp [e]
  · exact Lib.BuilderAtF.put (T := 179) (e := 5) hB hb2 (bs' := bs ++ Lib.runeCells r) (by simpa using hown') (by decide)
  · exact ((hb1.alloc (by have := hb1.size; omega) _).grown hgrow (by have := hb1.size; simp; omega) (fun k hk => (hown.lt k hk).1)).setCell (p := ⟨b, 1, none⟩) hB _

end Go.Proofs.YtachmkhbbbmioaaGreat

namespace Go.Proofs.YtachmkhbbbmioaaGreat
open Go.RowKit Go.Shelf
attribute [local go_sem] Oper.semAt_some

/-- The UTF-8 of the elements' runes. -/
def txt (L : List El) : List UInt8 := L.flatMap fun x => Lib.encodeRune x.r

theorem txt_snoc (L : List El) (x : El) : txt (L ++ [x]) = txt L ++ Lib.encodeRune x.r := by simp [txt]
theorem txt_le (L : List El) : (txt L).length ≤ 4 * L.length := by
  induction L with
  | nil => simp [txt]
  | cons x L ih =>
    have h1 := (Lib.runeCells_le x.r).2
    rw [Lib.runeCells_length] at h1
    simp only [txt, List.flatMap_cons, List.length_append, List.length_cons] at ih ⊢
    omega

theorem builderAt_kept {A B : World} {row : Option Nat} {T e : TypeId} {base b : Nat} {p : Value} {bs : List Value} (h : Lib.BuilderAtF T e base b p bs A) (hg : A.grownBy B row) (hr : ∀ r, row = some r → ∃ o : Obj, A.heap[r]? = some o ∧ o.isCells = false) : Lib.BuilderAtF T e base b p bs B := by
  obtain ⟨hB, v, hb, hown, hne⟩ := h
  refine ⟨hB, v, blk_kept hb hg hr, hown.kept hg ?_, hne⟩
  rcases hown.2 with ⟨hv, _⟩ | ⟨g, cap, cur, fz, hv, _, hh, _⟩
  · left; rw [hv]; rfl
  · right
    rw [hv]
    intro e
    obtain ⟨o, ho, hc⟩ := hr g e.symm
    rw [hh] at ho; cases ho; cases hc

theorem own_builder {β : Type} (T e : TypeId) (B b : Nat) (f : β → List Value) : Own (fun s W => Lib.IsBuilderF T e B b (f s) W) := fun _ _ _ _ hs hg hr =>
  hs.elim (fun h => .inl (builderAt_kept h hg hr)) (fun h => .inr (builderAt_kept h hg hr))

theorem kpt_others {w w' : World} {b : Nat} {c : Array Value} {f : Nat × Nat} (hs : w.heap.size ≤ w'.heap.size) (hb : w.heap[b]? = some (.cells c 179 f)) (h : Lib.OthersKept 5 (some b) w w') : Kpt w w' := by
  refine ⟨hs, fun k o hk ht => h k o hk ?_ ?_⟩
  · intro e; cases e; rw [hb] at hk; cases hk; cases ht
  · intro c fz e; subst e; cases ht
theorem keeps_others {w w' : World} {b : Nat} {c : Array Value} {e : TypeId} {f : Nat × Nat} (hs : w.heap.size ≤ w'.heap.size) (hb : w.heap[b]? = some (.cells c e f)) (h : Lib.OthersKept 5 (some b) w w') : KeepsOthers w w' := by
  refine ⟨hs, fun k o hk ht => h k o hk ?_ ?_⟩
  · intro e; cases e; rw [hb] at hk; cases hk; cases ht
  · intro c fz e; subst e; cases ht

theorem builder_blk {T e : TypeId} {B b : Nat} {bs : List Value} {w : World} (h : Lib.IsBuilderF T e B b bs w) : ∃ c, w.heap[b]? = some (.cells c T) := by
  rcases h with ⟨_, v, hb, _⟩ | ⟨_, v, hb, _⟩ <;> exact ⟨_, hb⟩

set_option maxRecDepth 100000 in
set_option maxHeartbeats 2000000 in
theorem text_any (lb mb : Nat) (E : List Ent) (L : List El) (w : World) (hl : Ln lb mb E w) (hL : LineIs E L) (hb : (vis L).length ≤ 1000000) :
    Calls Tryz.prog 85 #[.pointer (some ⟨lb, 0, none⟩)] w fun e w' => e = .returned (.string ⟨(txt (vis L)).toArray⟩) ∧ Below w.heap.size w w' := by
  refine (callsIn_wide (n := 4)).1 ?_
  refine callsIn_of_wp_marks Tryz.func85 rfl trivial ?_ rfl
  simp only [Tryz.ntmps85, List.size_toArray, List.length_cons, List.length_nil, Nat.reduceAdd, Nat.reduceSub, Array.replicate_succ, Array.replicate_zero, List.push_toArray, List.append_toArray, List.nil_append, List.cons_append]
  gi_wp2_with (refine ⟨trivial, ?_⟩; gi_at_call 119; refine (callsIn_wide.2 (there_any _ _)).mono ?_; rintro e w' ⟨rfl, rfl⟩)
  have hl1 := hl.grown (grown_alloc (grown_refl w) (.cells #[.pointer none, .slice none 0 0] 179))
  have hI := hl1.it
  simp only [World.size_alloc] at hI
  have hB0 : Below w.heap.size w ((w.alloc (.cells #[.pointer none, .slice none 0 0] 179)).alloc (.cells #[.pointer (some ⟨lb, 0, none⟩)] 136)) := ((Below.refl _ w).alloc (Nat.le_refl _) _).alloc (by simp) _
  have hbu : Lib.IsBuilderF 179 5 w.heap.size w.heap.size [] ((w.alloc (.cells #[.pointer none, .slice none 0 0] 179)).alloc (.cells #[.pointer (some ⟨lb, 0, none⟩)] 136)) :=
    .inl ⟨Nat.le_refl _, .slice none 0 0, by simp only [heap_alloc_at, World.size_alloc]; simp, World.ownsRowF_nil _ _ _ _, by simp [Value.ownBlock]⟩
  refine wpIn_rangeFunc_ownF (F := Fence.wide) rfl (by omega) (gf := 147) (lb := #[.pointer (some ⟨w.heap.size + 1, 0, none⟩)]) rfl trivial (enters_of Tryz.func147 (by kernel_rfl) rfl)
    (there_stops 3 (by omega) (w.heap.size + 1) lb mb E L _ hI hL) kpt_t (kpt_b _) (Below.refl _ _) (fun _ => rfl)
    (fun pre W => Lib.IsBuilderF 179 5 w.heap.size w.heap.size (Lib.byteCells (txt pre)) W ∧ Below w.heap.size w W)
    (fun _ _ _ => False)
    (OwnFrom.and (Own.from (own_builder 179 5 w.heap.size w.heap.size (fun pre : List El => Lib.byteCells (txt pre))) _) (ownFrom_below (Nat.le_refl _) (by simp; omega)))
    (fun _ _ _ _ _ hs _ _ => hs)
    ⟨hbu, hB0⟩
    (fun x => { tmps := #[.pointer (some ⟨lb, 0, none⟩), undef, .string { data := #[] }, .pointer (some ⟨w.heap.size, 0, none⟩), undef, .int .i32 x.r, .pointer (some ⟨lb, 0, none⟩), .func (.func 147) #[] #[.pointer (some ⟨w.heap.size + 1, 0, none⟩)], .agg #[.int .i64 x.c, .int .i64 x.k], .int .i32 x.r, undef, undef, undef], defers := [] }) ?assign ?body ?done ?stop
  case assign =>
    intro l x W K hK
    simp only [encs]
    gi_wp2
    simpa [encs] using hK
  case body =>
    rintro l pre x W ⟨hc, hB⟩ hlen
    have hbl := (txt_le pre)
    have hr := x.ok
    unfold Sc at hr
    gi_wp2_with (refine ⟨trivial, ?_⟩; gi_at_call 120; refine (CallsIn.inRound l (callsIn_wide.2 (writeRune_any w.heap.size w.heap.size (Lib.byteCells (txt pre)) x.r (by omega) (by omega) W hc (by rw [Lib.byteCells_length]; omega) hB.size))).mono ?_)
    rintro e w1 ⟨rfl, h1, h2, h3⟩
    gi_wp2
    obtain ⟨c, hcb⟩ := builder_blk hc
    refine ⟨keeps_others h2.size hcb h3, kpt_others h2.size hcb h3, .inr ?_, hB.trans h2⟩
    rw [txt_snoc, Lib.byteCells_append, Lib.byteCells_encodeRune]; exact h1
  case done =>
    rintro D ys W hD rfl ⟨hc, hB⟩ hK
    gi_wp2_with (refine ⟨trivial, ?_⟩; gi_at_call 121; refine (callsIn_wide.2 (Builder_String_any_k w.heap.size w.heap.size (txt (vis L)) W hc hB.size)).mono ?_)
    rintro e w1 ⟨rfl, h1, h2, h3⟩
    obtain ⟨c, hcb⟩ := builder_blk hc
    have hK1 := (keeps_others h2.size hcb h3).same D _ hK rfl
    gi_wp2
    refine ⟨by simp, .inl ⟨_, _, rfl, run_takeDeferred hK1, ?_⟩⟩
    exact ⟨_, results_tmp rfl _ _ _, rfl, (hB.trans h2).trans (belowK_b (w := w) (Nat.le_refl _) w1 D _ _ (by simp at hD; omega) hK1 rfl rfl)⟩
  case stop =>
    rintro D c pre W _ _ h _
    exact h.elim

end Go.Proofs.YtachmkhbbbmioaaGreat

namespace Go.Proofs.YtachmkhbbbmioaaGreat
open Go.RowKit Go.Shelf

theorem StAt.drewN {sb ma mp lb mb : Nat} {S : CS} {w : World} (h : StAt sb ma mp lb mb S w) (n : Nat) : StAt sb ma mp lb mb S (w.drewN n) := h.kept (fun _ _ => rfl)

theorem valid_sc {r : Int} (h : Lib.validRune r = true) : Sc r := by
  unfold Lib.validRune at h
  simp at h
  unfold Sc
  omega

/-- Where the rune p - 1 stands, and what lies behind it. -/
theorem split_vis : ∀ (L : List El) (p : Nat), p ≤ (vis L).length → ∃ A R, L = A ++ R ∧ (vis A).length = p ∧ (p = 0 → A = []) ∧ (∀ p', p = p' + 1 → ∃ x, (vis L)[p']? = some x ∧ lc A = x.c ∧ lk A = x.k)
  | L, 0, _ => ⟨[], L, rfl, rfl, fun _ => rfl, fun p' h => by omega⟩
  | [], p + 1, h => by simp [vis] at h
  | x :: L, p + 1, h => by
    cases hx : x.d with
    | false =>
      rw [vis_cons_there hx] at h
      obtain ⟨A, R, h1, h2, h3, h4⟩ := split_vis L p (by simpa using h)
      refine ⟨x :: A, R, by rw [h1]; rfl, by rw [vis_cons_there hx]; simp [h2], fun q => by omega, fun p' hp' => ?_⟩
      cases p with
      | zero =>
        obtain rfl : p' = 0 := by omega
        rw [h3 rfl]
        exact ⟨x, by rw [vis_cons_there hx]; rfl, rfl, rfl⟩
      | succ m =>
        obtain rfl : p' = m + 1 := by omega
        obtain ⟨y, hy, e1, e2⟩ := h4 m rfl
        refine ⟨y, by rw [vis_cons_there hx]; simpa using hy, ?_, ?_⟩
        · cases A with
          | nil => simp [vis] at h2
          | cons z A => exact e1
        · cases A with
          | nil => simp [vis] at h2
          | cons z A => exact e2
    | true =>
      rw [vis_cons_gone hx] at h
      obtain ⟨A, R, h1, h2, h3, h4⟩ := split_vis L (p + 1) h
      refine ⟨x :: A, R, by rw [h1]; rfl, by rw [vis_cons_gone hx]; exact h2, fun q => by omega, fun p' hp' => ?_⟩
      obtain ⟨y, hy, e1, e2⟩ := h4 p' hp'
      refine ⟨y, by rw [vis_cons_gone hx]; exact hy, ?_, ?_⟩
      · cases A with
        | nil => simp [vis] at h2
        | cons z A => exact e1
      · cases A with
        | nil => simp [vis] at h2
        | cons z A => exact e2

theorem StAt.line {sb ma mp lb mb : Nat} {S : CS} {w : World} (h : StAt sb ma mp lb mb S w) : w.cell? ⟨sb, 13, none⟩ = some (.pointer (some ⟨lb, 0, none⟩)) := cell_blk h.st 13

/-- The line's Len, over a state. -/
theorem lenS (sb ma mp lb mb : Nat) (S : CS) (w : World) (hS : StAt sb ma mp lb mb S w) (hb : (vis S.L).length ≤ 1000000) :
    Calls Tryz.prog 104 #[.pointer (some ⟨lb, 0, none⟩)] w fun e w' => e = .returned (.int .i64 (vis S.L).length) ∧ Below w.heap.size w w' := by
  obtain ⟨E, h1, h2⟩ := hS.ln
  exact len_any lb mb E S.L w h1 h2 hb
theorem textS (sb ma mp lb mb : Nat) (S : CS) (w : World) (hS : StAt sb ma mp lb mb S w) (hb : (vis S.L).length ≤ 1000000) :
    Calls Tryz.prog 85 #[.pointer (some ⟨lb, 0, none⟩)] w fun e w' => e = .returned (.string ⟨(txt (vis S.L)).toArray⟩) ∧ Below w.heap.size w w' := by
  obtain ⟨E, h1, h2⟩ := hS.ln
  exact text_any lb mb E S.L w h1 h2 hb
theorem markS (sb ma mp lb mb : Nat) (S : CS) (p : Nat) (x : El) (w : World) (hS : StAt sb ma mp lb mb S w) (hb : (vis S.L).length ≤ 1000000) (hx : (vis S.L)[p]? = some x) :
    Calls Tryz.prog 108 #[.pointer (some ⟨lb, 0, none⟩), .int .i64 p] w fun e w' => e = .returned (.agg #[.int .i64 x.c, .int .i64 x.k]) ∧ Below w.heap.size w w' := by
  obtain ⟨E, h1, h2⟩ := hS.ln
  exact markAt_any lb mb E S.L p x w h1 h2 hb hx

set_option maxRecDepth 100000 in
set_option maxHeartbeats 1000000 in
theorem stLen_any (sb ma mp lb mb : Nat) (S : CS) (w : World) (hS : StAt sb ma mp lb mb S w) (hb : (vis S.L).length ≤ 1000000) :
    Calls Tryz.prog 78 #[.pointer (some ⟨sb, 0, none⟩)] w fun e w' => e = .returned (.int .i64 (vis S.L).length) ∧ Below w.heap.size w w' := by
  have c1 := hS.line
  have h := lenS sb ma mp lb mb S w hS hb
  go_enter Tryz.func78, Tryz.ntmps78
  go_wp2_with (go_at_call 104; refine h.mono ?_; rintro e w1 ⟨rfl, hB⟩)
  go_ret
  exact ⟨rfl, hB⟩

set_option maxRecDepth 100000 in
set_option maxHeartbeats 1000000 in
theorem stText_any (sb ma mp lb mb : Nat) (S : CS) (w : World) (hS : StAt sb ma mp lb mb S w) (hb : (vis S.L).length ≤ 1000000) :
    Calls Tryz.prog 61 #[.pointer (some ⟨sb, 0, none⟩)] w fun e w' => e = .returned (.string ⟨(txt (vis S.L)).toArray⟩) ∧ Below w.heap.size w w' := by
  have c1 := hS.line
  have h := textS sb ma mp lb mb S w hS hb
  go_enter Tryz.func61, Tryz.ntmps61
  go_wp2_with (go_at_call 85; refine h.mono ?_; rintro e w1 ⟨rfl, hB⟩)
  go_ret
  exact ⟨rfl, hB⟩

set_option maxRecDepth 100000 in
set_option maxHeartbeats 1000000 in
/-- Insert at a place that there is not. -/
theorem stIns_place (sb ma mp lb mb : Nat) (S : CS) (p r : Int) (w : World) (hS : StAt sb ma mp lb mb S w) (hb : (vis S.L).length ≤ 1000000) (hp : p < 0 ∨ (vis S.L).length < p) :
    Calls Tryz.prog 81 #[.pointer (some ⟨sb, 0, none⟩), .int .i64 p, .int .i32 r] w fun e w' => e = .returned (.int .i64 3) ∧ Below w.heap.size w w' := by
  have c1 := hS.line
  have h := lenS sb ma mp lb mb S w hS hb
  by_cases h0 : p < 0
  · go_enter Tryz.func81, Tryz.ntmps81
    go_wp2_with fail
    go_ret
    exact ⟨rfl, Below.refl _ _⟩
  · have h1 : ((vis S.L).length : Int) < p := by omega
    go_enter Tryz.func81, Tryz.ntmps81
    go_wp2_with (go_at_call 104; refine h.mono ?_; rintro e w1 ⟨rfl, hB⟩)
    go_ret
    exact ⟨rfl, hB⟩

set_option maxRecDepth 100000 in
set_option maxHeartbeats 1000000 in
/-- Insert of what is no rune. -/
theorem stIns_rune (sb ma mp lb mb : Nat) (S : CS) (p r : Int) (w : World) (hS : StAt sb ma mp lb mb S w) (hb : (vis S.L).length ≤ 1000000) (hp0 : 0 ≤ p) (hp : p ≤ (vis S.L).length) (hr : Lib.validRune r = false) :
    Calls Tryz.prog 81 #[.pointer (some ⟨sb, 0, none⟩), .int .i64 p, .int .i32 r] w fun e w' => e = .returned (.int .i64 4) ∧ Below w.heap.size w w' := by
  have c1 := hS.line
  have h := lenS sb ma mp lb mb S w hS hb
  have hV := fun w => utf8_ValidRune r w
  rw [hr] at hV
  clear hr
  go_enter Tryz.func81, Tryz.ntmps81
  go_wp2_with (first | (go_at_call 104; refine h.mono ?_; rintro e w1 ⟨rfl, hB⟩) | (go_at_call 105; refine (hV _).mono ?_; rintro e w2 ⟨rfl, rfl⟩))
  go_ret
  exact ⟨rfl, hB⟩

end Go.Proofs.YtachmkhbbbmioaaGreat

namespace Go.Proofs.YtachmkhbbbmioaaGreat
open Go.RowKit Go.Shelf

/-- What holds of every copy's state. -/
structure Good (S : CS) : Prop where
  s1 : 1 ≤ S.s
  sn : S.s ≤ S.n
  n8 : S.n ≤ 8
  g0 : 0 ≤ S.g
  g1 : S.g ≤ 1099511627776
  cl : ∀ i, i < 8 → 0 ≤ S.cl i ∧ S.cl i ≤ 100
  len : (vis S.L).length ≤ 1000000
  mark : ∀ x ∈ S.L, 0 < x.c ∧ x.c ≤ S.g

/-- The element that a copy makes next. -/
def newEl (S : CS) (r : Int) (hr : Lib.validRune r = true) : El := { c := S.g + 1, k := S.s, r := r, d := false, ok := valid_sc hr }

theorem newEl_fresh {S : CS} (hG : Good S) {r : Int} (hr : Lib.validRune r = true) {A R : List El} (h : S.L = A ++ R) : fresh (newEl S r hr) (A ++ R) := by
  refine ⟨fun q => ?_, fun x hx q => ?_⟩
  · have := hG.g0; have h1 : S.g + 1 = 0 := q.1; omega
  · rw [← h] at hx
    have := (hG.mark x hx).2
    have h1 : x.c = S.g + 1 := q.1
    omega

theorem fullS {S : CS} (hG : Good S) (sb ma mp lb mb : Nat) (w : World) (hS : StAt sb ma mp lb mb S w) (b : Bool) (hb : decide (100 ≤ S.cl (S.s - 1) ∨ 1099511627776 ≤ S.g) = b) :
    Calls Tryz.prog 106 #[.pointer (some ⟨sb, 0, none⟩)] w fun r w' => r = .returned (.bool b) ∧ Below w.heap.size w w' := by
  have h := full_any sb ma mp lb mb S w hS hG.s1 (Nat.le_trans hG.sn hG.n8)
  rw [hb] at h
  refine h.mono ?_
  rintro e w' ⟨rfl, n, rfl⟩
  exact ⟨rfl, ⟨rfl, rfl, rfl, Nat.le_refl _, fun _ _ => rfl⟩⟩

theorem Below.trans' {a b c : World} (h : Below a.heap.size a b) (k : Below b.heap.size b c) : Below a.heap.size a c := h.trans (k.mono h.size)

set_option maxRecDepth 100000 in
set_option maxHeartbeats 1000000 in
theorem stIns_full (sb ma mp lb mb : Nat) (S : CS) (hG : Good S) (p r : Int) (w : World) (hS : StAt sb ma mp lb mb S w) (hp0 : 0 ≤ p) (hp : p ≤ (vis S.L).length) (hr : Lib.validRune r = true) (hf : decide (100 ≤ S.cl (S.s - 1) ∨ 1099511627776 ≤ S.g) = true) :
    Calls Tryz.prog 81 #[.pointer (some ⟨sb, 0, none⟩), .int .i64 p, .int .i32 r] w fun e w' => e = .returned (.int .i64 5) ∧ Below w.heap.size w w' := by
  have c1 := hS.line
  have h := lenS sb ma mp lb mb S w hS hG.len
  have hV := fun w => utf8_ValidRune r w
  rw [hr] at hV
  have hFu := fun (w' : World) (hw : Below w.heap.size w w') => fullS hG sb ma mp lb mb w' (hS.below hw) true hf
  clear hr hf
  go_enter Tryz.func81, Tryz.ntmps81
  go_wp2_with (first | (go_at_call 104; refine h.mono ?_; rintro e w1 ⟨rfl, hB⟩) | (go_at_call 105; refine (hV _).mono ?_; rintro e w2 ⟨rfl, rfl⟩) | (go_at_call 106; refine (hFu _ hB).mono ?_; rintro e w3 ⟨rfl, hB3⟩))
  go_ret
  exact ⟨rfl, Below.trans' hB hB3⟩

theorem markI (sb ma mp lb mb : Nat) (S : CS) (q : Int) (h0 : 0 ≤ q) (x : El) (w : World) (hS : StAt sb ma mp lb mb S w) (hb : (vis S.L).length ≤ 1000000) (hx : (vis S.L)[q.toNat]? = some x) :
    Calls Tryz.prog 108 #[.pointer (some ⟨lb, 0, none⟩), .int .i64 q] w fun e w' => e = .returned (.agg #[.int .i64 x.c, .int .i64 x.k]) ∧ Below w.heap.size w w' := by
  have := markS sb ma mp lb mb S q.toNat x w hS hb hx
  rwa [Int.toNat_of_nonneg h0] at this

set_option maxRecDepth 100000 in
set_option maxHeartbeats 2000000 in
theorem stIns_pos (sb ma mp lb mb : Nat) (S : CS) (hG : Good S) (q : Int) (hq : 0 < q) (r : Int) (w : World) (hS : StAt sb ma mp lb mb S w) (hp : q ≤ (vis S.L).length) (hr : Lib.validRune r = true) (hf : decide (100 ≤ S.cl (S.s - 1) ∨ 1099511627776 ≤ S.g) = false)
    (x : El) (hx : (vis S.L)[(q - 1).toNat]? = some x) (Rw : World → Prop) (hW : ∀ w', StAt sb ma mp lb mb S w' → Calls Tryz.prog 109 #[.pointer (some ⟨sb, 0, none⟩), .int .i64 0, .agg #[.int .i64 x.c, .int .i64 x.k], .int .i32 r] w' fun e w2 => e = .returned (.tuple #[]) ∧ Fr (own3 sb ma mb) w' w2 ∧ Rw w2) :
    Calls Tryz.prog 81 #[.pointer (some ⟨sb, 0, none⟩), .int .i64 q, .int .i32 r] w fun e w' => e = .returned (.int .i64 0) ∧ Fr (own3 sb ma mb) w w' ∧ Rw w' := by
  have c1 := hS.line
  have h := lenS sb ma mp lb mb S w hS hG.len
  have hV := fun w => utf8_ValidRune r w
  rw [hr] at hV
  have hFu := fun (w' : World) (hw : Below w.heap.size w w') => fullS hG sb ma mp lb mb w' (hS.below hw) false hf
  have hM := fun (w' : World) (hw : StAt sb ma mp lb mb S w') => markI sb ma mp lb mb S (q - 1) (by omega) x w' hw hG.len hx
  have hpl : q ≤ 1000000 := by have := hG.len; omega
  have HW := hide hW
  clear hf hr hx hW
  go_enter Tryz.func81, Tryz.ntmps81
  go_wp2_with (first | (go_at_call 104; refine h.mono ?_; rintro e w1 ⟨rfl, hB⟩) | (go_at_call 105; refine (hV _).mono ?_; rintro e w2 ⟨rfl, rfl⟩) | (go_at_call 106; refine (hFu _ hB).mono ?_; rintro e w3 ⟨rfl, hB3⟩))
  have hB4 := Below.trans' hB hB3
  have hS3 := hS.below hB4
  have g4 : w3.grownBy ((w3.alloc (.cells #[.int .i64 0, .int .i64 0] 152)).alloc (.cells #[.int .i64 0, .int .i64 0] 152)) none := grown_alloc (grown_alloc (grown_refl _) _) _
  have hS4 := hS3.grown g4
  have hF4 : Fr (own3 sb ma mb) w ((w3.alloc (.cells #[.int .i64 0, .int .i64 0] 152)).alloc (.cells #[.int .i64 0, .int .i64 0] 152)) := ((Fr.refl _ w).below hB4 (Nat.le_refl _)).grown g4 (by simp)
  have c4 := hS4.line
  have k4 : ((w3.alloc (.cells #[.int .i64 0, .int .i64 0] 152)).alloc (.cells #[.int .i64 0, .int .i64 0] 152)).heap[w3.heap.size + 1]? = some (.cells #[.int .i64 0, .int .i64 0] 152) := by
    simp only [heap_alloc_at, World.size_alloc]; simp
  have hs3 : w.heap.size ≤ w3.heap.size := hB4.size
  refine (beginning_any _).mono ?_
  rintro e w4 ⟨rfl, rfl⟩
  go_wp2_with fail
  refine (hM _ hS4).mono ?_
  rintro e w5 ⟨rfl, hB5⟩
  have k5 := (hB5.block _ (lt_of_heap k4)).trans k4
  have hS5 := hS4.below hB5
  have hF5 := hF4.below hB5 (by simp; omega)
  clear h hV hFu hM hB hB3 hB4 hS3 g4 hS4 hF4 c4 k4 hB5
  have d0 : w5.cell? ⟨w3.heap.size + 1, 0, none⟩ = some (.int .i64 0) := cell_blk k5 0
  have d1 : w5.cell? ⟨w3.heap.size + 1, 1, none⟩ = some (.int .i64 0) := cell_blk k5 1
  have f0 : w5.frozen? ⟨w3.heap.size + 1, 0, none⟩ = false := frozen_blk k5 0
  have f1 : w5.frozen? ⟨w3.heap.size + 1, 1, none⟩ = false := frozen_blk k5 1
  go_wp2_with fail
  have hS6 : StAt sb ma mp lb mb S ((w5.setCell ⟨w3.heap.size + 1, 0, none⟩ (.int .i64 x.c)).setCell ⟨w3.heap.size + 1, 1, none⟩ (.int .i64 x.k)) := hS5.kept (fun k hk => by
    have := hS.lts k hk
    rw [Below.heap_setCell _ _ _ _ (by simp; omega), Below.heap_setCell _ _ _ _ (by simp; omega)])
  have hF6 := (hF5.setCell (p := ⟨w3.heap.size + 1, 0, none⟩) (.inr (by simp; omega)) (.int .i64 x.c)).setCell (p := ⟨w3.heap.size + 1, 1, none⟩) (.inr (by simp; omega)) (.int .i64 x.k)
  refine (HW.out _ hS6).mono ?_
  rintro e w7 ⟨rfl, hF7, hR7⟩
  go_wp2_with fail
  go_ret
  exact ⟨rfl, hF6.trans hF7, hR7⟩

/-- A line cut behind the element that is p-th of those there: behind the p-th, at the head where p is 0. -/
def CutIs (L : List El) (p : Nat) (A R : List El) : Prop :=
  L = A ++ R ∧ (vis A).length = p ∧ (p = 0 → A = []) ∧ (∀ p', p = p' + 1 → ∃ x, (vis L)[p']? = some x ∧ lc A = x.c ∧ lk A = x.k)

set_option maxRecDepth 100000 in
set_option maxHeartbeats 2000000 in
theorem stIns_ok (sb ma mp lb mb : Nat) (S : CS) (hG : Good S) (p : Nat) (r : Int) (w : World) (hS : StAt sb ma mp lb mb S w) (hp : p ≤ (vis S.L).length) (hr : Lib.validRune r = true) (hf : decide (100 ≤ S.cl (S.s - 1) ∨ 1099511627776 ≤ S.g) = false) :
    Calls Tryz.prog 81 #[.pointer (some ⟨sb, 0, none⟩), .int .i64 p, .int .i32 r] w fun e w' => e = .returned (.int .i64 0) ∧
      ∃ A R, CutIs S.L p A R ∧ StAt sb ma mp lb mb { S with cl := bump S.cl (S.s - 1), g := S.g + 1, L := A ++ behind (newEl S r hr) R, ops := opIns S (lc A) (lk A) r :: S.ops } w' ∧ Fr (own3 sb ma mb) w w' := by
  have c1 := hS.line
  have h := lenS sb ma mp lb mb S w hS hG.len
  have hV := fun w => utf8_ValidRune r w
  rw [hr] at hV
  have hFu := fun (w' : World) (hw : Below w.heap.size w w') => fullS hG sb ma mp lb mb w' (hS.below hw) false hf
  have hnf : S.cl (S.s - 1) < 100 ∧ S.g < 1099511627776 := by
    have := of_decide_eq_false hf
    omega
  have hc := hG.cl (S.s - 1) (by have := hG.n8; have := hG.sn; have := hG.s1; omega)
  have h8 := Nat.le_trans hG.sn hG.n8
  have hg0 := hG.g0
  have hs1 := hG.s1
  obtain ⟨A, R, hL, hA, hA0, hA1⟩ := split_vis S.L p hp
  have hW := fun (w' : World) (hw : StAt sb ma mp lb mb S w') => write_ins sb ma mp lb mb S A R (newEl S r hr) w' hw hs1 h8 hc.1 (by omega) hg0 (by omega) hL rfl rfl (newEl_fresh hG hr hL) rfl
  have HH : Hid (CutIs S.L p A R) := ⟨hL, hA, hA0, hA1⟩
  have hpl : (p : Int) ≤ 1000000 := by have := hG.len; omega
  have HF := hide hf
  clear hf hL hA
  cases p with
  | zero =>
    obtain rfl := hA0 rfl
    simp only [newEl, lc, lk] at hW
    clear hA0 hA1
    go_enter Tryz.func81, Tryz.ntmps81
    go_wp2_with (first | (go_at_call 104; refine h.mono ?_; rintro e w1 ⟨rfl, hB⟩) | (go_at_call 105; refine (hV _).mono ?_; rintro e w2 ⟨rfl, rfl⟩) | (go_at_call 106; refine (hFu _ hB).mono ?_; rintro e w3 ⟨rfl, hB3⟩) | (go_at_call 107; refine (beginning_any _).mono ?_; rintro e w4 ⟨rfl, rfl⟩))
    have hB4 := Below.trans' hB hB3
    have g4 : w3.grownBy ((w3.alloc (.cells #[.int .i64 0, .int .i64 0] 152)).alloc (.cells #[.int .i64 0, .int .i64 0] 152)) none := grown_alloc (grown_alloc (grown_refl _) _) _
    refine (hW _ ((hS.below hB4).grown g4)).mono ?_
    rintro e w5 ⟨rfl, hS5, hF5⟩
    go_wp2_with fail
    go_ret
    exact ⟨rfl, [], R, HH.out, hS5, (((Fr.refl _ w).below hB4 (Nat.le_refl _)).grown g4 (by simp)).trans hF5⟩
  | succ p =>
    obtain ⟨x, hx, e1, e2⟩ := hA1 p rfl
    have hpos := stIns_pos sb ma mp lb mb S hG ((p : Int) + 1) (by omega) r w hS (by omega) hr HF.out x (by simpa using hx)
      (fun w' => StAt sb ma mp lb mb { S with cl := bump S.cl (S.s - 1), g := S.g + 1, L := A ++ behind (newEl S r hr) R, ops := opIns S (lc A) (lk A) r :: S.ops } w')
      (fun w' hw => by
        have := hW w' hw
        rw [e1, e2] at this
        refine this.mono ?_
        rintro e w2 ⟨rfl, h2, h3⟩
        exact ⟨rfl, h3, by rw [e1, e2]; exact h2⟩)
    have ep : (((p + 1 : Nat) : Nat) : Int) = (p : Int) + 1 := by omega
    rw [ep]
    refine hpos.mono ?_
    rintro e w' ⟨rfl, h1, h2⟩
    exact ⟨rfl, A, R, HH.out, h2, h1⟩

end Go.Proofs.YtachmkhbbbmioaaGreat

namespace Go.Proofs.YtachmkhbbbmioaaGreat
open Go.RowKit Go.Shelf

theorem split_mid : ∀ (L : List El) (p : Nat) (x : El), (vis L)[p]? = some x → ∃ A R, L = A ++ x :: R ∧ (vis A).length = p ∧ x.d = false
  | [], p, x, h => by simp [vis] at h
  | y :: L, p, x, h => by
    cases hy : y.d with
    | false =>
      rw [vis_cons_there hy] at h
      cases p with
      | zero =>
        simp only [List.getElem?_cons_zero, Option.some.injEq] at h
        subst h
        exact ⟨[], L, rfl, rfl, hy⟩
      | succ p =>
        obtain ⟨A, R, h1, h2, h3⟩ := split_mid L p x (by simpa using h)
        exact ⟨y :: A, R, by rw [h1]; rfl, by rw [vis_cons_there hy]; simp [h2], h3⟩
    | true =>
      rw [vis_cons_gone hy] at h
      obtain ⟨A, R, h1, h2, h3⟩ := split_mid L p x h
      exact ⟨y :: A, R, by rw [h1]; rfl, by rw [vis_cons_gone hy]; exact h2, h3⟩

set_option maxRecDepth 100000 in
set_option maxHeartbeats 1000000 in
theorem stDel_place (sb ma mp lb mb : Nat) (S : CS) (p : Int) (w : World) (hS : StAt sb ma mp lb mb S w) (hb : (vis S.L).length ≤ 1000000) (hp : p < 0 ∨ (vis S.L).length ≤ p) :
    Calls Tryz.prog 110 #[.pointer (some ⟨sb, 0, none⟩), .int .i64 p] w fun e w' => e = .returned (.int .i64 3) ∧ Below w.heap.size w w' := by
  have c1 := hS.line
  have h := lenS sb ma mp lb mb S w hS hb
  by_cases h0 : p < 0
  · go_enter Tryz.func110, Tryz.ntmps110
    go_wp2_with fail
    go_ret
    exact ⟨rfl, Below.refl _ _⟩
  · have h1 : ((vis S.L).length : Int) ≤ p := by omega
    go_enter Tryz.func110, Tryz.ntmps110
    go_wp2_with (go_at_call 104; refine h.mono ?_; rintro e w1 ⟨rfl, hB⟩)
    go_ret
    exact ⟨rfl, hB⟩

set_option maxRecDepth 100000 in
set_option maxHeartbeats 1000000 in
theorem stDel_full (sb ma mp lb mb : Nat) (S : CS) (hG : Good S) (p : Int) (w : World) (hS : StAt sb ma mp lb mb S w) (hp0 : 0 ≤ p) (hp : p < (vis S.L).length) (hf : decide (100 ≤ S.cl (S.s - 1) ∨ 1099511627776 ≤ S.g) = true) :
    Calls Tryz.prog 110 #[.pointer (some ⟨sb, 0, none⟩), .int .i64 p] w fun e w' => e = .returned (.int .i64 5) ∧ Below w.heap.size w w' := by
  have c1 := hS.line
  have h := lenS sb ma mp lb mb S w hS hG.len
  have hFu := fun (w' : World) (hw : Below w.heap.size w w') => fullS hG sb ma mp lb mb w' (hS.below hw) true hf
  clear hf
  go_enter Tryz.func110, Tryz.ntmps110
  go_wp2_with (first | (go_at_call 104; refine h.mono ?_; rintro e w1 ⟨rfl, hB⟩) | (go_at_call 106; refine (hFu _ hB).mono ?_; rintro e w3 ⟨rfl, hB3⟩))
  go_ret
  exact ⟨rfl, Below.trans' hB hB3⟩

set_option maxRecDepth 100000 in
set_option maxHeartbeats 2000000 in
theorem stDel_ok (sb ma mp lb mb : Nat) (S : CS) (hG : Good S) (p : Int) (w : World) (hS : StAt sb ma mp lb mb S w) (hp0 : 0 ≤ p) (hp : p < (vis S.L).length) (hf : decide (100 ≤ S.cl (S.s - 1) ∨ 1099511627776 ≤ S.g) = false) :
    Calls Tryz.prog 110 #[.pointer (some ⟨sb, 0, none⟩), .int .i64 p] w fun e w' => e = .returned (.int .i64 0) ∧
      ∃ A x R, S.L = A ++ x :: R ∧ (vis A).length = p.toNat ∧ x.d = false ∧ StAt sb ma mp lb mb { S with cl := bump S.cl (S.s - 1), g := S.g + 1, L := A ++ gone x :: R, ops := opDel S x.c x.k :: S.ops } w' ∧ Fr (own3 sb ma mb) w w' := by
  have c1 := hS.line
  have h := lenS sb ma mp lb mb S w hS hG.len
  have hFu := fun (w' : World) (hw : Below w.heap.size w w') => fullS hG sb ma mp lb mb w' (hS.below hw) false hf
  have hnf : S.cl (S.s - 1) < 100 ∧ S.g < 1099511627776 := by
    have := of_decide_eq_false hf
    omega
  have hc := hG.cl (S.s - 1) (by have := hG.n8; have := hG.sn; have := hG.s1; omega)
  have h8 := Nat.le_trans hG.sn hG.n8
  have hg0 := hG.g0
  have hs1 := hG.s1
  have hx : (vis S.L)[p.toNat]? = some ((vis S.L)[p.toNat]'(by omega)) := List.getElem?_eq_getElem _
  generalize (vis S.L)[p.toNat]'(by omega) = x at hx
  obtain ⟨A, R, hL, hA, hxd⟩ := split_mid S.L p.toNat x hx
  have hM := fun (w' : World) (hw : StAt sb ma mp lb mb S w') => markI sb ma mp lb mb S p hp0 x w' hw hG.len hx
  have hW := hide (fun (w' : World) (hw : StAt sb ma mp lb mb S w') => write_del sb ma mp lb mb S A R x w' hw hs1 h8 hc.1 (by omega) hg0 (by omega) hL)
  have HH : Hid (S.L = A ++ x :: R ∧ (vis A).length = p.toNat ∧ x.d = false) := ⟨hL, hA, hxd⟩
  clear hf hL hA hxd hx
  go_enter Tryz.func110, Tryz.ntmps110
  go_wp2_with (first | (go_at_call 104; refine h.mono ?_; rintro e w1 ⟨rfl, hB⟩))
  refine (hFu _ hB).mono ?_
  rintro e w3 ⟨rfl, hB3⟩
  have hB4 := Below.trans' hB hB3
  have hS3 := hS.below hB4
  have c3 := hS3.line
  go_wp2_with fail
  refine (hM _ hS3).mono ?_
  rintro e w5 ⟨rfl, hB5⟩
  have hB6 := Below.trans' hB4 hB5
  have hS5 := hS.below hB6
  go_wp2_with fail
  refine (hW.out _ hS5).mono ?_
  rintro e w7 ⟨rfl, hS7, hF7⟩
  go_wp2_with fail
  go_ret
  exact ⟨rfl, A, x, R, HH.out.1, HH.out.2.1, HH.out.2.2, hS7, ((Fr.refl _ w).below hB6 (Nat.le_refl _)).trans hF7⟩

end Go.Proofs.YtachmkhbbbmioaaGreat
