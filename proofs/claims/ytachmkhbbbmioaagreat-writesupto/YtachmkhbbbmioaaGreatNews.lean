import Derived.Test.YtachmkhbbbmioaaGreatFace
namespace Go.Proofs.YtachmkhbbbmioaaGreat
open Go.RowKit Go.Shelf

set_option maxRecDepth 100000 in
set_option maxHeartbeats 1000000 in
theorem lineNew_any (w : World) :
    Calls Tryz.prog 94 #[] w fun e w' => ∃ lb mb E, e = .returned (.pointer (some ⟨lb, 0, none⟩)) ∧ Ln lb mb E w' ∧ LineIs E [] ∧ w.grownBy w' none ∧ w.heap.size ≤ mb ∧ w.heap.size ≤ lb := by
  have hmm := @run_makeMap Tryz.prog
  have g1 : (w.alloc (.map #[] 0)).grownBy (((w.alloc (.map #[] 0)).alloc (.cells #[.int .i64 0, .int .i64 0] 152)).alloc (.cells #[.int .i64 0, .int .i64 0] 152)) none := grown_alloc (grown_alloc (grown_refl _) _) _
  have he0 : entsAt (w.alloc (.map #[] 0)) w.heap.size [] := ⟨0, by rw [heap_alloc_at]; simp⟩
  have he1 : entsAt (((w.alloc (.map #[] 0)).alloc (.cells #[.int .i64 0, .int .i64 0] 152)).alloc (.cells #[.int .i64 0, .int .i64 0] 152)) w.heap.size [] := he0.of_block (g1.block _ he0.lt (by simp))
  obtain ⟨w2, hu, hc2, hz2, hs2, hg2, n, he2⟩ := upd_ex keyMark he1 0 0 (.agg #[.int .i32 0, .bool false, .int .i64 0, .int .i64 0])
  go_enter Tryz.func94, Tryz.ntmps94
  go_wp2_with (go_at_call 107; refine (beginning_any _).mono ?_; rintro e w' ⟨rfl, rfl⟩)
  go_ret
  have hs3 : w2.heap.size = w.heap.size + 1 + 1 + 1 := by simpa using hs2
  refine ⟨w.heap.size + 1 + 1 + 1, w.heap.size, put 0 0 (ev 0 false 0 0) n [], rfl, ⟨by rw [heap_alloc_at, hs3]; simp, entsAt_alloc he2⟩, ⟨?_, trivial, by simp, ?_⟩, ?_, Nat.le_refl _, by omega⟩
  · rw [look_put, if_pos ⟨rfl, rfl⟩]; rfl
  · intro c k hck
    rw [look_put, look_nil] at hck
    by_cases q : c = 0 ∧ k = 0
    · exact .inl q
    · rw [if_neg q] at hck; exact (hck rfl).elim
  · refine grown_alloc (a := w) ⟨hg2.os, hg2.tape, hg2.output, by omega, fun k hk _ => ?_⟩ _
    rw [hg2.block k (by simp; omega) (by simp; omega)]
    rw [Below.heap_alloc _ _ _ (by simp; omega), Below.heap_alloc _ _ _ (by simp; omega), Below.heap_alloc _ _ _ hk]

theorem heap_new' {w : World} {o : Obj} {k : Nat} (h : k = w.heap.size) : (w.alloc o).heap[k]? = some o := by rw [heap_alloc_at, if_pos h]
theorem ent_new' {w : World} {k : Nat} (h : k = w.heap.size) : entsAt (w.alloc (.map #[] 0)) k [] := ⟨0, heap_new' h⟩
theorem ents_grown {w w' : World} {k : Nat} {l : List Ent} (h : entsAt w k l) (g : w.grownBy w' none) : entsAt w' k l := h.of_block (g.block _ h.lt (by simp))
theorem blk_alloc {w : World} {k : Nat} {o o' : Obj} (h : w.heap[k]? = some o) : (w.alloc o').heap[k]? = some o := (Below.heap_alloc _ _ _ (lt_of_heap h)).trans h

/-- The state of a new copy. -/
def newS (n s : Nat) : CS := { n := n, s := s, cl := fun _ => 0, g := 0, L := [], ops := [], wt := [] }

theorem newS_good {n s : Nat} (h1 : 1 ≤ s) (h2 : s ≤ n) (h3 : n ≤ 8) : Good (newS n s) :=
  ⟨h1, h2, h3, by simp [newS], by simp [newS], fun i _ => ⟨Int.le_refl _, by simp [newS]⟩, by simp [newS, vis], by simp [newS]⟩

/-- What a new state must show. -/
def Newly (n s : Nat) (w1 : World) (sb : Nat) (wx : World) : Prop :=
  ∃ ma mp lb mb, StAt sb ma mp lb mb (newS n s) wx ∧ w1.grownBy wx none ∧ (w1.heap.size ≤ sb ∧ w1.heap.size ≤ ma ∧ w1.heap.size ≤ mp ∧ w1.heap.size ≤ lb ∧ w1.heap.size ≤ mb)

theorem newly (n s : Nat) {w1 X w5 Y : World} {ma mp lb mb : Nat} {E : List Ent} (hX : w1.grownBy X none) (hgl : X.grownBy w5 none) (hY : w5.grownBy Y none) (hln : Ln lb mb E w5) (hLi : LineIs E []) (hmb : X.heap.size ≤ mb) (hlb : X.heap.size ≤ lb)
    (ea : entsAt Y ma []) (ep : entsAt Y mp []) (na : w1.heap.size ≤ ma) (np : w1.heap.size ≤ mp) (n1 : ma ≠ mp) (n2 : ma < X.heap.size ∨ w5.heap.size ≤ ma) (n3 : mp < X.heap.size ∨ w5.heap.size ≤ mp) {sb : Nat} (hsb : sb = Y.heap.size) :
    Newly n s w1 sb (Y.alloc (.cells (stArr n s (fun _ => 0) 0 ma mp lb) 138)) := by
  have q1 := hX.size
  have q2 := hgl.size
  have q3 := hY.size
  have q4 := hln.ents.lt
  refine ⟨ma, mp, lb, mb, ⟨heap_new' hsb, ⟨[], entsAt_alloc ea, fun _ _ => rfl⟩, ⟨[], entsAt_alloc ep, penIs_nil⟩, ⟨E, ⟨blk_alloc (blk_grown hln.line hY), entsAt_alloc (ents_grown hln.ents hY)⟩, hLi⟩, n1, by omega, by omega⟩, grown_alloc (grown_trans (grown_trans hX hgl) hY) _, by omega, na, np, by omega, by omega⟩

set_option maxRecDepth 100000 in
set_option maxHeartbeats 2000000 in
theorem stNew_any (n s : Nat) (h1 : 1 ≤ s) (h2 : s ≤ n) (h3 : n ≤ 8) (w : World) :
    Calls Tryz.prog 68 #[.agg #[.int .i64 n, .int .i64 s]] w fun e w' => ∃ sb ma mp lb mb, e = .returned (.tuple #[.pointer (some ⟨sb, 0, none⟩), .int .i64 0]) ∧ StAt sb ma mp lb mb (newS n s) w' ∧ w.grownBy w' none ∧
      (w.heap.size ≤ sb ∧ w.heap.size ≤ ma ∧ w.heap.size ≤ mp ∧ w.heap.size ≤ lb ∧ w.heap.size ≤ mb) := by
  have hmm := @run_makeMap Tryz.prog
  have hn1 : ¬ (n : Int) < 1 := by omega
  have hn8 : ¬ (8 : Int) < (n : Int) := by omega
  have hs1 : ¬ (s : Int) < 1 := by omega
  have hsn : ¬ (n : Int) < (s : Int) := by omega
  go_enter Tryz.func68, Tryz.ntmps68
  go_wp2_with fail
  have g0 : w.grownBy (w.alloc (.cells #[.int .i64 (n : Int), .int .i64 (s : Int)] 77)) none := grown_alloc (grown_refl _) _
  have k0 : (w.alloc (.cells #[.int .i64 (n : Int), .int .i64 (s : Int)] 77)).heap[w.heap.size]? = some (.cells #[.int .i64 (n : Int), .int .i64 (s : Int)] 77) := by rw [heap_alloc_at]; simp
  generalize (w.alloc (.cells #[.int .i64 (n : Int), .int .i64 (s : Int)] 77)) = w1 at g0 k0 ⊢
  have c0 : w1.cell? ⟨w.heap.size, 0, none⟩ = some (.int .i64 (n : Int)) := cell_blk k0 0
  have c1 : w1.cell? ⟨w.heap.size, 1, none⟩ = some (.int .i64 (s : Int)) := cell_blk k0 1
  have m1 := World.new_ne w1 _ c0
  go_cut [2, 3] (fun s2 s3 wx => s3 = .int .i64 0 ∧ ∃ sb, s2 = .pointer (some ⟨sb, 0, none⟩) ∧ Newly n s w1 sb wx)
  case first =>
    go_region_held3 (fun w' => w'.cell? ⟨w.heap.size, 0, none⟩ = some (.int .i64 (n : Int)) ∧ w'.cell? ⟨w.heap.size, 1, none⟩ = some (.int .i64 (s : Int))) (first | go_keep | exact ⟨hgl.cell (by go_keep) (by simp), hgl.cell (by go_keep) (by simp)⟩)
      (first | (go_at_call 94; refine (lineNew_any _).mono ?_; rintro e w5 ⟨lb, mb, E, rfl, hln, hLi, hgl, hmb, hlb⟩))
    all_goals (go_wp2_with fail; go_meet)
    all_goals go_light
    · exact ⟨rfl, _, rfl, newly n s (ma := w1.heap.size) (mp := w1.heap.size + 1) (grown_drew (grown_alloc (grown_alloc (grown_refl _) _) _)) hgl (grown_refl _) hln hLi hmb hlb (ents_grown (entsAt_drew.2 (entsAt_alloc (ent_new' rfl))) hgl) (ents_grown (entsAt_drew.2 (ent_new' (by simp))) hgl) (by omega) (by omega) (by omega) (.inl (by simp [heap_drew]; omega)) (.inl (by simp [heap_drew])) rfl⟩
    · exact ⟨rfl, _, rfl, newly n s (ma := w1.heap.size) (mp := w5.heap.size) (grown_drew (grown_alloc (grown_refl _) _)) hgl (grown_alloc (grown_refl _) _) hln hLi hmb hlb (entsAt_alloc (ents_grown (entsAt_drew.2 (ent_new' rfl)) hgl)) (ent_new' rfl) (by omega) (by have := hgl.size; simp [heap_drew] at this; omega) (by have := hgl.size; simp [heap_drew] at this; omega) (.inl (by simp [heap_drew])) (.inr (by omega)) (by simp)⟩
    · exact ⟨rfl, _, rfl, newly n s (ma := w1.heap.size + 1) (mp := w1.heap.size) (grown_drew (grown_alloc (grown_alloc (grown_refl _) _) _)) hgl (grown_refl _) hln hLi hmb hlb (ents_grown (entsAt_drew.2 (ent_new' (by simp))) hgl) (ents_grown (entsAt_drew.2 (entsAt_alloc (ent_new' rfl))) hgl) (by omega) (by omega) (by omega) (.inl (by simp [heap_drew])) (.inl (by simp [heap_drew]; omega)) rfl⟩
    · exact ⟨rfl, _, rfl, newly n s (ma := w5.heap.size) (mp := w1.heap.size) (grown_drew (grown_alloc (grown_refl _) _)) hgl (grown_alloc (grown_refl _) _) hln hLi hmb hlb (ent_new' rfl) (entsAt_alloc (ents_grown (entsAt_drew.2 (ent_new' rfl)) hgl)) (by have := hgl.size; simp [heap_drew] at this; omega) (by omega) (by have := hgl.size; simp [heap_drew] at this; omega) (.inr (by omega)) (.inl (by simp [heap_drew])) (by simp)⟩
    · exact ⟨rfl, _, rfl, newly n s (ma := w5.heap.size) (mp := w5.heap.size + 1) (grown_drew (grown_refl _)) hgl (grown_alloc (grown_alloc (grown_refl _) _) _) hln hLi hmb hlb (entsAt_alloc (ent_new' rfl)) (ent_new' (by simp)) (by have := hgl.size; simp [heap_drew] at this; omega) (by have := hgl.size; simp [heap_drew] at this; omega) (by omega) (.inr (by omega)) (.inr (by omega)) (by simp)⟩
    · exact ⟨rfl, _, rfl, newly n s (ma := w5.heap.size + 1) (mp := w5.heap.size) (grown_drew (grown_refl _)) hgl (grown_alloc (grown_alloc (grown_refl _) _) _) hln hLi hmb hlb (ent_new' (by simp)) (entsAt_alloc (ent_new' rfl)) (by have := hgl.size; simp [heap_drew] at this; omega) (by have := hgl.size; simp [heap_drew] at this; omega) (by omega) (.inr (by omega)) (.inr (by omega)) (by simp)⟩
  case rest =>
  obtain ⟨rfl, sb, rfl, ma, mp, lb, mb, hS, hg, hb1, hb2, hb3, hb4, hb5⟩ := hcut
  have hs0 := g0.size
  go_wp2_with fail
  go_ret2
  exact ⟨sb, rfl, ma, mp, lb, mb, hS, grown_trans g0 hg, by omega, by omega, by omega, by omega, by omega⟩

end Go.Proofs.YtachmkhbbbmioaaGreat
