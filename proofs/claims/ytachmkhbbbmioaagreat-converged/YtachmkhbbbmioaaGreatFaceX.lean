import Derived.Test.YtachmkhbbbmioaaGreatStClk
import Derived.Test.YtachmkhbbbmioaaGreatLocks
import Derived.Defers
namespace Go.Proofs.YtachmkhbbbmioaaGreat
open Go.RowKit Go.Shelf Go.MuLone

/-- A copy at block cb: its mutex is free, its state lies at sb. -/
structure CpAt (cb sb ma mp lb mb : Nat) (S : CS) (w : World) : Prop where
  cp : w.heap[cb]? = some (.cells #[.int .i32 0, .int .u32 0, .pointer (some ⟨sb, 0, none⟩)] 112)
  st : StAt sb ma mp lb mb S w

/-- The blocks of a copy that a call may turn. -/
abbrev own4 (cb sb ma mb : Nat) : List Nat := [cb, sb, ma, mb]

theorem CpAt.ne {cb sb ma mp lb mb : Nat} {S : CS} {w : World} (h : CpAt cb sb ma mp lb mb S w) : cb ≠ sb ∧ cb ≠ ma ∧ cb ≠ mp ∧ cb ≠ lb ∧ cb ≠ mb := by
  obtain ⟨E, h1, -⟩ := h.st.ln
  obtain ⟨EA, ⟨ca, ha⟩, -⟩ := h.st.app
  obtain ⟨EP, ⟨cp, hp⟩, -⟩ := h.st.pen
  obtain ⟨cbb, hb⟩ := h1.ents
  have h2 := h.cp
  refine ⟨?_, ?_, ?_, ?_, ?_⟩ <;> rintro rfl
  · rw [h.st.st] at h2; cases h2
  · rw [ha] at h2; cases h2
  · rw [hp] at h2; cases h2
  · rw [h1.line] at h2; cases h2
  · rw [hb] at h2; cases h2

/-- While the lock is held the state is as it was. -/
theorem CpAt.locked {cb sb ma mp lb mb : Nat} {S : CS} {w : World} (h : CpAt cb sb ma mp lb mb S w) (v : Value) : StAt sb ma mp lb mb S (w.setCell ⟨cb, 0, none⟩ v) := by
  obtain ⟨n1, n2, n3, n4, n5⟩ := h.ne
  exact h.st.kept (fun k hk => Below.heap_setCell _ _ _ _ (by rcases hk with rfl | rfl | rfl | rfl | rfl <;> exact Ne.symm ‹_›))

/-- Behind the unlock. -/
theorem CpAt.unlock {cb sb ma mp lb mb : Nat} {S' : CS} {w2 : World} (hs : StAt sb ma mp lb mb S' w2) (hk : w2.heap[cb]? = some (.cells #[.int .i32 1, .int .u32 0, .pointer (some ⟨sb, 0, none⟩)] 112)) : CpAt cb sb ma mp lb mb S' (w2.setCell ⟨cb, 0, none⟩ (.int .i32 0)) := by
  have hk' : (w2.setCell ⟨cb, 0, none⟩ (.int .i32 0)).heap[cb]? = some (.cells #[.int .i32 0, .int .u32 0, .pointer (some ⟨sb, 0, none⟩)] 112) := by rw [set_blk hk]; rfl
  refine ⟨hk', hs.kept (fun k hk2 => Below.heap_setCell _ _ _ _ (fun q => ?_))⟩
  obtain ⟨E, h1, -⟩ := hs.ln
  obtain ⟨EA, ⟨ca, ha⟩, -⟩ := hs.app
  obtain ⟨EP, ⟨cp, hp⟩, -⟩ := hs.pen
  obtain ⟨cbb, hb⟩ := h1.ents
  have q' : k = cb := q
  subst q'
  rcases hk2 with rfl | rfl | rfl | rfl | rfl
  · rw [hs.st] at hk; cases hk
  · rw [ha] at hk; cases hk
  · rw [hp] at hk; cases hk
  · rw [h1.line] at hk; cases hk
  · rw [hb] at hk; cases hk

theorem Fr.ofBelow {bs : List Nat} {w w' : World} (h : Below w.heap.size w w') : Fr bs w w' := (Fr.refl bs w).below h (Nat.le_refl _)

set_option maxRecDepth 100000 in
set_option maxHeartbeats 1000000 in
theorem face_len (cb sb ma mp lb mb : Nat) (S : CS) (w : World) (h : CpAt cb sb ma mp lb mb S w) (v : Value) (Post : World → Prop)
    (hin : ∀ w1, w1.heap.size = w.heap.size → StAt sb ma mp lb mb S w1 → Calls Tryz.prog 78 #[.pointer (some ⟨sb, 0, none⟩)] w1 fun e w2 => e = .returned v ∧ Post w2 ∧ Fr (own3 sb ma mb) w1 w2) :
    Calls Tryz.prog 44 #[.pointer (some ⟨cb, 0, none⟩)] w fun e w' => e = .returned v ∧ ∃ w2, Post w2 ∧ w2.heap[cb]? = some (.cells #[.int .i32 1, .int .u32 0, .pointer (some ⟨sb, 0, none⟩)] 112) ∧ w' = w2.setCell ⟨cb, 0, none⟩ (.int .i32 0) ∧ Fr (own4 cb sb ma mb) w w' := by
  have c0 : w.cell? ⟨cb, 0, none⟩ = some (.int .i32 0) := cell_blk h.cp 0
  have f0 : w.frozen? ⟨cb, 0, none⟩ = false := frozen_blk h.cp 0
  obtain ⟨n1, n2, n3, n4, n5⟩ := h.ne
  have hS1 := h.locked (.int .i32 1)
  have k1 : (w.setCell ⟨cb, 0, none⟩ (.int .i32 1)).heap[cb]? = some (.cells #[.int .i32 1, .int .u32 0, .pointer (some ⟨sb, 0, none⟩)] 112) := by rw [set_blk h.cp]; rfl
  have c2 : (w.setCell ⟨cb, 0, none⟩ (.int .i32 1)).cell? ⟨cb, 2, none⟩ = some (.pointer (some ⟨sb, 0, none⟩)) := cell_blk k1 2
  have hF1 : Fr (own4 cb sb ma mb) w (w.setCell ⟨cb, 0, none⟩ (.int .i32 1)) := (Fr.refl _ w).setCell (.inl (by simp)) _
  have hC := hide (hin (w.setCell ⟨cb, 0, none⟩ (.int .i32 1)) (by simp [World.setCell]) hS1)
  clear hin
  go_enter_defers Tryz.func44, Tryz.ntmps44
  go_wp2_with (go_at_call 59; refine (lock_free muLib ⟨cb, 0, none⟩ _ c0 f0).mono ?_; rintro e w' ⟨rfl, rfl⟩)
  refine hC.out.mono ?_
  rintro e w2 ⟨rfl, hP, hF2⟩
  have k2 : w2.heap[cb]? = some (.cells #[.int .i32 1, .int .u32 0, .pointer (some ⟨sb, 0, none⟩)] 112) := hF2.blk k1 (by simp [n1, n2, n5])
  go_wp2_with fail
  refine leaves_cons (f := 60) (args := #[.pointer (some ⟨cb, 0, none⟩)]) (by simp) (by simp [go_sem]) ?_
  refine (unlock_deferred muLib ⟨cb, 0, none⟩ .returning _ (cell_blk k2 0) (frozen_blk k2 0)).mono ?_
  rintro e u' w3 ⟨rfl, rfl, rfl⟩
  exact ⟨_, results_tmp rfl _ _ _, rfl, w2, hP, k2, rfl, (hF1.trans (hF2.mono (by simp))).setCell (.inl (by simp)) _⟩

set_option maxRecDepth 100000 in
set_option maxHeartbeats 1000000 in
theorem face_text (cb sb ma mp lb mb : Nat) (S : CS) (w : World) (h : CpAt cb sb ma mp lb mb S w) (v : Value) (Post : World → Prop)
    (hin : ∀ w1, w1.heap.size = w.heap.size → StAt sb ma mp lb mb S w1 → Calls Tryz.prog 61 #[.pointer (some ⟨sb, 0, none⟩)] w1 fun e w2 => e = .returned v ∧ Post w2 ∧ Fr (own3 sb ma mb) w1 w2) :
    Calls Tryz.prog 26 #[.pointer (some ⟨cb, 0, none⟩)] w fun e w' => e = .returned v ∧ ∃ w2, Post w2 ∧ w2.heap[cb]? = some (.cells #[.int .i32 1, .int .u32 0, .pointer (some ⟨sb, 0, none⟩)] 112) ∧ w' = w2.setCell ⟨cb, 0, none⟩ (.int .i32 0) ∧ Fr (own4 cb sb ma mb) w w' := by
  have c0 : w.cell? ⟨cb, 0, none⟩ = some (.int .i32 0) := cell_blk h.cp 0
  have f0 : w.frozen? ⟨cb, 0, none⟩ = false := frozen_blk h.cp 0
  obtain ⟨n1, n2, n3, n4, n5⟩ := h.ne
  have hS1 := h.locked (.int .i32 1)
  have k1 : (w.setCell ⟨cb, 0, none⟩ (.int .i32 1)).heap[cb]? = some (.cells #[.int .i32 1, .int .u32 0, .pointer (some ⟨sb, 0, none⟩)] 112) := by rw [set_blk h.cp]; rfl
  have c2 : (w.setCell ⟨cb, 0, none⟩ (.int .i32 1)).cell? ⟨cb, 2, none⟩ = some (.pointer (some ⟨sb, 0, none⟩)) := cell_blk k1 2
  have hF1 : Fr (own4 cb sb ma mb) w (w.setCell ⟨cb, 0, none⟩ (.int .i32 1)) := (Fr.refl _ w).setCell (.inl (by simp)) _
  have hC := hide (hin (w.setCell ⟨cb, 0, none⟩ (.int .i32 1)) (by simp [World.setCell]) hS1)
  clear hin
  go_enter_defers Tryz.func26, Tryz.ntmps26
  go_wp2_with (go_at_call 59; refine (lock_free muLib ⟨cb, 0, none⟩ _ c0 f0).mono ?_; rintro e w' ⟨rfl, rfl⟩)
  refine hC.out.mono ?_
  rintro e w2 ⟨rfl, hP, hF2⟩
  have k2 : w2.heap[cb]? = some (.cells #[.int .i32 1, .int .u32 0, .pointer (some ⟨sb, 0, none⟩)] 112) := hF2.blk k1 (by simp [n1, n2, n5])
  go_wp2_with fail
  refine leaves_cons (f := 60) (args := #[.pointer (some ⟨cb, 0, none⟩)]) (by simp) (by simp [go_sem]) ?_
  refine (unlock_deferred muLib ⟨cb, 0, none⟩ .returning _ (cell_blk k2 0) (frozen_blk k2 0)).mono ?_
  rintro e u' w3 ⟨rfl, rfl, rfl⟩
  exact ⟨_, results_tmp rfl _ _ _, rfl, w2, hP, k2, rfl, (hF1.trans (hF2.mono (by simp))).setCell (.inl (by simp)) _⟩

set_option maxRecDepth 100000 in
set_option maxHeartbeats 1000000 in
theorem face_clock (cb sb ma mp lb mb : Nat) (S : CS) (w : World) (h : CpAt cb sb ma mp lb mb S w) (v : Value) (Post : World → Prop)
    (hin : ∀ w1, w1.heap.size = w.heap.size → StAt sb ma mp lb mb S w1 → Calls Tryz.prog 62 #[.pointer (some ⟨sb, 0, none⟩)] w1 fun e w2 => e = .returned v ∧ Post w2 ∧ Fr (own3 sb ma mb) w1 w2) :
    Calls Tryz.prog 28 #[.pointer (some ⟨cb, 0, none⟩)] w fun e w' => e = .returned v ∧ ∃ w2, Post w2 ∧ w2.heap[cb]? = some (.cells #[.int .i32 1, .int .u32 0, .pointer (some ⟨sb, 0, none⟩)] 112) ∧ w' = w2.setCell ⟨cb, 0, none⟩ (.int .i32 0) ∧ Fr (own4 cb sb ma mb) w w' := by
  have c0 : w.cell? ⟨cb, 0, none⟩ = some (.int .i32 0) := cell_blk h.cp 0
  have f0 : w.frozen? ⟨cb, 0, none⟩ = false := frozen_blk h.cp 0
  obtain ⟨n1, n2, n3, n4, n5⟩ := h.ne
  have hS1 := h.locked (.int .i32 1)
  have k1 : (w.setCell ⟨cb, 0, none⟩ (.int .i32 1)).heap[cb]? = some (.cells #[.int .i32 1, .int .u32 0, .pointer (some ⟨sb, 0, none⟩)] 112) := by rw [set_blk h.cp]; rfl
  have c2 : (w.setCell ⟨cb, 0, none⟩ (.int .i32 1)).cell? ⟨cb, 2, none⟩ = some (.pointer (some ⟨sb, 0, none⟩)) := cell_blk k1 2
  have hF1 : Fr (own4 cb sb ma mb) w (w.setCell ⟨cb, 0, none⟩ (.int .i32 1)) := (Fr.refl _ w).setCell (.inl (by simp)) _
  have hC := hide (hin (w.setCell ⟨cb, 0, none⟩ (.int .i32 1)) (by simp [World.setCell]) hS1)
  clear hin
  go_enter_defers Tryz.func28, Tryz.ntmps28
  go_wp2_with (go_at_call 59; refine (lock_free muLib ⟨cb, 0, none⟩ _ c0 f0).mono ?_; rintro e w' ⟨rfl, rfl⟩)
  refine hC.out.mono ?_
  rintro e w2 ⟨rfl, hP, hF2⟩
  have k2 : w2.heap[cb]? = some (.cells #[.int .i32 1, .int .u32 0, .pointer (some ⟨sb, 0, none⟩)] 112) := hF2.blk k1 (by simp [n1, n2, n5])
  go_wp2_with fail
  refine leaves_cons (f := 60) (args := #[.pointer (some ⟨cb, 0, none⟩)]) (by simp) (by simp [go_sem]) ?_
  refine (unlock_deferred muLib ⟨cb, 0, none⟩ .returning _ (cell_blk k2 0) (frozen_blk k2 0)).mono ?_
  rintro e u' w3 ⟨rfl, rfl, rfl⟩
  exact ⟨_, results_tmp rfl _ _ _, rfl, w2, hP, k2, rfl, (hF1.trans (hF2.mono (by simp))).setCell (.inl (by simp)) _⟩

set_option maxRecDepth 100000 in
set_option maxHeartbeats 1000000 in
theorem face_ins (cb sb ma mp lb mb : Nat) (S : CS) (p r : Int) (w : World) (h : CpAt cb sb ma mp lb mb S w) (v : Value) (Post : World → Prop)
    (hin : ∀ w1, w1.heap.size = w.heap.size → StAt sb ma mp lb mb S w1 → Calls Tryz.prog 81 #[.pointer (some ⟨sb, 0, none⟩), .int .i64 p, .int .i32 r] w1 fun e w2 => e = .returned v ∧ Post w2 ∧ Fr (own3 sb ma mb) w1 w2) :
    Calls Tryz.prog 54 #[.pointer (some ⟨cb, 0, none⟩), .int .i64 p, .int .i32 r] w fun e w' => e = .returned v ∧ ∃ w2, Post w2 ∧ w2.heap[cb]? = some (.cells #[.int .i32 1, .int .u32 0, .pointer (some ⟨sb, 0, none⟩)] 112) ∧ w' = w2.setCell ⟨cb, 0, none⟩ (.int .i32 0) ∧ Fr (own4 cb sb ma mb) w w' := by
  have c0 : w.cell? ⟨cb, 0, none⟩ = some (.int .i32 0) := cell_blk h.cp 0
  have f0 : w.frozen? ⟨cb, 0, none⟩ = false := frozen_blk h.cp 0
  obtain ⟨n1, n2, n3, n4, n5⟩ := h.ne
  have hS1 := h.locked (.int .i32 1)
  have k1 : (w.setCell ⟨cb, 0, none⟩ (.int .i32 1)).heap[cb]? = some (.cells #[.int .i32 1, .int .u32 0, .pointer (some ⟨sb, 0, none⟩)] 112) := by rw [set_blk h.cp]; rfl
  have c2 : (w.setCell ⟨cb, 0, none⟩ (.int .i32 1)).cell? ⟨cb, 2, none⟩ = some (.pointer (some ⟨sb, 0, none⟩)) := cell_blk k1 2
  have hF1 : Fr (own4 cb sb ma mb) w (w.setCell ⟨cb, 0, none⟩ (.int .i32 1)) := (Fr.refl _ w).setCell (.inl (by simp)) _
  have hC := hide (hin (w.setCell ⟨cb, 0, none⟩ (.int .i32 1)) (by simp [World.setCell]) hS1)
  clear hin
  go_enter_defers Tryz.func54, Tryz.ntmps54
  go_wp2_with (go_at_call 59; refine (lock_free muLib ⟨cb, 0, none⟩ _ c0 f0).mono ?_; rintro e w' ⟨rfl, rfl⟩)
  refine hC.out.mono ?_
  rintro e w2 ⟨rfl, hP, hF2⟩
  have k2 : w2.heap[cb]? = some (.cells #[.int .i32 1, .int .u32 0, .pointer (some ⟨sb, 0, none⟩)] 112) := hF2.blk k1 (by simp [n1, n2, n5])
  go_wp2_with fail
  refine leaves_cons (f := 60) (args := #[.pointer (some ⟨cb, 0, none⟩)]) (by simp) (by simp [go_sem]) ?_
  refine (unlock_deferred muLib ⟨cb, 0, none⟩ .returning _ (cell_blk k2 0) (frozen_blk k2 0)).mono ?_
  rintro e u' w3 ⟨rfl, rfl, rfl⟩
  exact ⟨_, results_tmp rfl _ _ _, rfl, w2, hP, k2, rfl, (hF1.trans (hF2.mono (by simp))).setCell (.inl (by simp)) _⟩

set_option maxRecDepth 100000 in
set_option maxHeartbeats 1000000 in
theorem face_del (cb sb ma mp lb mb : Nat) (S : CS) (p : Int) (w : World) (h : CpAt cb sb ma mp lb mb S w) (v : Value) (Post : World → Prop)
    (hin : ∀ w1, w1.heap.size = w.heap.size → StAt sb ma mp lb mb S w1 → Calls Tryz.prog 110 #[.pointer (some ⟨sb, 0, none⟩), .int .i64 p] w1 fun e w2 => e = .returned v ∧ Post w2 ∧ Fr (own3 sb ma mb) w1 w2) :
    Calls Tryz.prog 82 #[.pointer (some ⟨cb, 0, none⟩), .int .i64 p] w fun e w' => e = .returned v ∧ ∃ w2, Post w2 ∧ w2.heap[cb]? = some (.cells #[.int .i32 1, .int .u32 0, .pointer (some ⟨sb, 0, none⟩)] 112) ∧ w' = w2.setCell ⟨cb, 0, none⟩ (.int .i32 0) ∧ Fr (own4 cb sb ma mb) w w' := by
  have c0 : w.cell? ⟨cb, 0, none⟩ = some (.int .i32 0) := cell_blk h.cp 0
  have f0 : w.frozen? ⟨cb, 0, none⟩ = false := frozen_blk h.cp 0
  obtain ⟨n1, n2, n3, n4, n5⟩ := h.ne
  have hS1 := h.locked (.int .i32 1)
  have k1 : (w.setCell ⟨cb, 0, none⟩ (.int .i32 1)).heap[cb]? = some (.cells #[.int .i32 1, .int .u32 0, .pointer (some ⟨sb, 0, none⟩)] 112) := by rw [set_blk h.cp]; rfl
  have c2 : (w.setCell ⟨cb, 0, none⟩ (.int .i32 1)).cell? ⟨cb, 2, none⟩ = some (.pointer (some ⟨sb, 0, none⟩)) := cell_blk k1 2
  have hF1 : Fr (own4 cb sb ma mb) w (w.setCell ⟨cb, 0, none⟩ (.int .i32 1)) := (Fr.refl _ w).setCell (.inl (by simp)) _
  have hC := hide (hin (w.setCell ⟨cb, 0, none⟩ (.int .i32 1)) (by simp [World.setCell]) hS1)
  clear hin
  go_enter_defers Tryz.func82, Tryz.ntmps82
  go_wp2_with (go_at_call 59; refine (lock_free muLib ⟨cb, 0, none⟩ _ c0 f0).mono ?_; rintro e w' ⟨rfl, rfl⟩)
  refine hC.out.mono ?_
  rintro e w2 ⟨rfl, hP, hF2⟩
  have k2 : w2.heap[cb]? = some (.cells #[.int .i32 1, .int .u32 0, .pointer (some ⟨sb, 0, none⟩)] 112) := hF2.blk k1 (by simp [n1, n2, n5])
  go_wp2_with fail
  refine leaves_cons (f := 60) (args := #[.pointer (some ⟨cb, 0, none⟩)]) (by simp) (by simp [go_sem]) ?_
  refine (unlock_deferred muLib ⟨cb, 0, none⟩ .returning _ (cell_blk k2 0) (frozen_blk k2 0)).mono ?_
  rintro e u' w3 ⟨rfl, rfl, rfl⟩
  exact ⟨_, results_tmp rfl _ _ _, rfl, w2, hP, k2, rfl, (hF1.trans (hF2.mono (by simp))).setCell (.inl (by simp)) _⟩

end Go.Proofs.YtachmkhbbbmioaaGreat

namespace Go.Proofs.YtachmkhbbbmioaaGreat
open Go.RowKit Go.Shelf

set_option maxRecDepth 100000 in
set_option maxHeartbeats 1000000 in
theorem lineNew_any (w : World) :
    Calls Tryz.prog 94 #[] w fun e w' => ∃ lb mb E, e = .returned (.pointer (some ⟨lb, 0, none⟩)) ∧ Ln lb mb E w' ∧ LineIs E [] ∧ w.grownBy w' none ∧ w.heap.size ≤ mb ∧ w.heap.size ≤ lb := by
  have hmm := @run_makeMap Tryz.prog
  have g1 : (w.alloc (.map #[] 0)).grownBy (((w.alloc (.map #[] 0)).alloc (.cells #[.int .i64 0, .int .i64 0] 152)).alloc (.cells #[.int .i64 0, .int .i64 0] 152)) none := grown_alloc (grown_alloc (grown_refl _) _) _
  have he0 : entsAt (w.alloc (.map #[] 0)) w.heap.size [] := ⟨0, by rw [heap_alloc_at]; simp⟩
  have he1 : entsAt (((w.alloc (.map #[] 0)).alloc (.cells #[.int .i64 0, .int .i64 0] 152)).alloc (.cells #[.int .i64 0, .int .i64 0] 152)) w.heap.size [] := he0.of_block (g1.block _ he0.lt (by simp))
  obtain ⟨w2, hu, hc2, hz2, hs2, hg2, n, he2⟩ := upd_ex keyMark he1 0 0 (.agg #[.int .i32 0, .bool false, .int .i64 0, .int .i64 0])
  go_enter Tryz.func94, Tryz.ntmps94
  go_wp2_with (go_at_call 107; refine (beginning_any _).mono ?_; rintro e w' ⟨rfl, rfl⟩)
  go_ret
  have hs3 : w2.heap.size = w.heap.size + 1 + 1 + 1 := by simpa using hs2
  refine ⟨w.heap.size + 1 + 1 + 1, w.heap.size, put 0 0 (ev 0 false 0 0) n [], rfl, ⟨by rw [heap_alloc_at, hs3]; simp, entsAt_alloc he2⟩, ⟨?_, trivial, by simp, ?_⟩, ?_, Nat.le_refl _, by omega⟩
  · rw [look_put, if_pos ⟨rfl, rfl⟩]; rfl
  · intro c k hck
    rw [look_put, look_nil] at hck
    by_cases q : c = 0 ∧ k = 0
    · exact .inl q
    · rw [if_neg q] at hck; exact (hck rfl).elim
  · refine grown_alloc (a := w) ⟨hg2.os, hg2.tape, hg2.output, by omega, fun k hk _ => ?_⟩ _
    rw [hg2.block k (by simp; omega) (by simp; omega)]
    rw [Below.heap_alloc _ _ _ (by simp; omega), Below.heap_alloc _ _ _ (by simp; omega), Below.heap_alloc _ _ _ hk]

theorem heap_new' {w : World} {o : Obj} {k : Nat} (h : k = w.heap.size) : (w.alloc o).heap[k]? = some o := by rw [heap_alloc_at, if_pos h]
theorem ent_new' {w : World} {k : Nat} (h : k = w.heap.size) : entsAt (w.alloc (.map #[] 0)) k [] := ⟨0, heap_new' h⟩
theorem ents_grown {w w' : World} {k : Nat} {l : List Ent} (h : entsAt w k l) (g : w.grownBy w' none) : entsAt w' k l := h.of_block (g.block _ h.lt (by simp))
theorem blk_alloc {w : World} {k : Nat} {o o' : Obj} (h : w.heap[k]? = some o) : (w.alloc o').heap[k]? = some o := (Below.heap_alloc _ _ _ (lt_of_heap h)).trans h

/-- The state of a new copy. -/
def newS (n s : Nat) : CS := { n := n, s := s, cl := fun _ => 0, g := 0, L := [], ops := [], wt := [] }

theorem newS_good {n s : Nat} (h1 : 1 ≤ s) (h2 : s ≤ n) (h3 : n ≤ 8) : Good (newS n s) :=
  ⟨h1, h2, h3, by simp [newS], by simp [newS], fun i _ => ⟨Int.le_refl _, by simp [newS]⟩, by simp [newS, vis], by simp [newS]⟩

/-- What a new state must show. -/
def Newly (n s : Nat) (w1 : World) (sb : Nat) (wx : World) : Prop :=
  ∃ ma mp lb mb, StAt sb ma mp lb mb (newS n s) wx ∧ w1.grownBy wx none ∧ (w1.heap.size ≤ sb ∧ w1.heap.size ≤ ma ∧ w1.heap.size ≤ mp ∧ w1.heap.size ≤ lb ∧ w1.heap.size ≤ mb)

theorem newly (n s : Nat) {w1 X w5 Y : World} {ma mp lb mb : Nat} {E : List Ent} (hX : w1.grownBy X none) (hgl : X.grownBy w5 none) (hY : w5.grownBy Y none) (hln : Ln lb mb E w5) (hLi : LineIs E []) (hmb : X.heap.size ≤ mb) (hlb : X.heap.size ≤ lb)
    (ea : entsAt Y ma []) (ep : entsAt Y mp []) (na : w1.heap.size ≤ ma) (np : w1.heap.size ≤ mp) (n1 : ma ≠ mp) (n2 : ma < X.heap.size ∨ w5.heap.size ≤ ma) (n3 : mp < X.heap.size ∨ w5.heap.size ≤ mp) {sb : Nat} (hsb : sb = Y.heap.size) :
    Newly n s w1 sb (Y.alloc (.cells (stArr n s (fun _ => 0) 0 ma mp lb) 138)) := by
  have q1 := hX.size
  have q2 := hgl.size
  have q3 := hY.size
  have q4 := hln.ents.lt
  refine ⟨ma, mp, lb, mb, ⟨heap_new' hsb, ⟨[], entsAt_alloc ea, fun _ _ => rfl⟩, ⟨[], entsAt_alloc ep, penIs_nil⟩, ⟨E, ⟨blk_alloc (blk_grown hln.line hY), entsAt_alloc (ents_grown hln.ents hY)⟩, hLi⟩, n1, by omega, by omega⟩, grown_alloc (grown_trans (grown_trans hX hgl) hY) _, by omega, na, np, by omega, by omega⟩

set_option maxRecDepth 100000 in
set_option maxHeartbeats 2000000 in
theorem stNew_any (n s : Nat) (h1 : 1 ≤ s) (h2 : s ≤ n) (h3 : n ≤ 8) (w : World) :
    Calls Tryz.prog 68 #[.agg #[.int .i64 n, .int .i64 s]] w fun e w' => ∃ sb ma mp lb mb, e = .returned (.tuple #[.pointer (some ⟨sb, 0, none⟩), .int .i64 0]) ∧ StAt sb ma mp lb mb (newS n s) w' ∧ w.grownBy w' none ∧
      (w.heap.size ≤ sb ∧ w.heap.size ≤ ma ∧ w.heap.size ≤ mp ∧ w.heap.size ≤ lb ∧ w.heap.size ≤ mb) := by
  have hmm := @run_makeMap Tryz.prog
  have hn1 : ¬ (n : Int) < 1 := by omega
  have hn8 : ¬ (8 : Int) < (n : Int) := by omega
  have hs1 : ¬ (s : Int) < 1 := by omega
  have hsn : ¬ (n : Int) < (s : Int) := by omega
  go_enter Tryz.func68, Tryz.ntmps68
  go_wp2_with fail
  have g0 : w.grownBy (w.alloc (.cells #[.int .i64 (n : Int), .int .i64 (s : Int)] 77)) none := grown_alloc (grown_refl _) _
  have k0 : (w.alloc (.cells #[.int .i64 (n : Int), .int .i64 (s : Int)] 77)).heap[w.heap.size]? = some (.cells #[.int .i64 (n : Int), .int .i64 (s : Int)] 77) := by rw [heap_alloc_at]; simp
  generalize (w.alloc (.cells #[.int .i64 (n : Int), .int .i64 (s : Int)] 77)) = w1 at g0 k0 ⊢
  have c0 : w1.cell? ⟨w.heap.size, 0, none⟩ = some (.int .i64 (n : Int)) := cell_blk k0 0
  have c1 : w1.cell? ⟨w.heap.size, 1, none⟩ = some (.int .i64 (s : Int)) := cell_blk k0 1
  have m1 := World.new_ne w1 _ c0
  go_cut [2, 3] (fun s2 s3 wx => s3 = .int .i64 0 ∧ ∃ sb, s2 = .pointer (some ⟨sb, 0, none⟩) ∧ Newly n s w1 sb wx)
  case first =>
    go_region_held3 (fun w' => w'.cell? ⟨w.heap.size, 0, none⟩ = some (.int .i64 (n : Int)) ∧ w'.cell? ⟨w.heap.size, 1, none⟩ = some (.int .i64 (s : Int))) (first | go_keep | exact ⟨hgl.cell (by go_keep) (by simp), hgl.cell (by go_keep) (by simp)⟩)
      (first | (go_at_call 94; refine (lineNew_any _).mono ?_; rintro e w5 ⟨lb, mb, E, rfl, hln, hLi, hgl, hmb, hlb⟩))
    all_goals (go_wp2_with fail; go_meet)
    all_goals go_light
    · exact ⟨rfl, _, rfl, newly n s (ma := w1.heap.size) (mp := w1.heap.size + 1) (grown_drew (grown_alloc (grown_alloc (grown_refl _) _) _)) hgl (grown_refl _) hln hLi hmb hlb (ents_grown (entsAt_drew.2 (entsAt_alloc (ent_new' rfl))) hgl) (ents_grown (entsAt_drew.2 (ent_new' (by simp))) hgl) (by omega) (by omega) (by omega) (.inl (by simp [heap_drew]; omega)) (.inl (by simp [heap_drew])) rfl⟩
    · exact ⟨rfl, _, rfl, newly n s (ma := w1.heap.size) (mp := w5.heap.size) (grown_drew (grown_alloc (grown_refl _) _)) hgl (grown_alloc (grown_refl _) _) hln hLi hmb hlb (entsAt_alloc (ents_grown (entsAt_drew.2 (ent_new' rfl)) hgl)) (ent_new' rfl) (by omega) (by have := hgl.size; simp [heap_drew] at this; omega) (by have := hgl.size; simp [heap_drew] at this; omega) (.inl (by simp [heap_drew])) (.inr (by omega)) (by simp)⟩
    · exact ⟨rfl, _, rfl, newly n s (ma := w1.heap.size + 1) (mp := w1.heap.size) (grown_drew (grown_alloc (grown_alloc (grown_refl _) _) _)) hgl (grown_refl _) hln hLi hmb hlb (ents_grown (entsAt_drew.2 (ent_new' (by simp))) hgl) (ents_grown (entsAt_drew.2 (entsAt_alloc (ent_new' rfl))) hgl) (by omega) (by omega) (by omega) (.inl (by simp [heap_drew])) (.inl (by simp [heap_drew]; omega)) rfl⟩
    · exact ⟨rfl, _, rfl, newly n s (ma := w5.heap.size) (mp := w1.heap.size) (grown_drew (grown_alloc (grown_refl _) _)) hgl (grown_alloc (grown_refl _) _) hln hLi hmb hlb (ent_new' rfl) (entsAt_alloc (ents_grown (entsAt_drew.2 (ent_new' rfl)) hgl)) (by have := hgl.size; simp [heap_drew] at this; omega) (by omega) (by have := hgl.size; simp [heap_drew] at this; omega) (.inr (by omega)) (.inl (by simp [heap_drew])) (by simp)⟩
    · exact ⟨rfl, _, rfl, newly n s (ma := w5.heap.size) (mp := w5.heap.size + 1) (grown_drew (grown_refl _)) hgl (grown_alloc (grown_alloc (grown_refl _) _) _) hln hLi hmb hlb (entsAt_alloc (ent_new' rfl)) (ent_new' (by simp)) (by have := hgl.size; simp [heap_drew] at this; omega) (by have := hgl.size; simp [heap_drew] at this; omega) (by omega) (.inr (by omega)) (.inr (by omega)) (by simp)⟩
    · exact ⟨rfl, _, rfl, newly n s (ma := w5.heap.size + 1) (mp := w5.heap.size) (grown_drew (grown_refl _)) hgl (grown_alloc (grown_alloc (grown_refl _) _) _) hln hLi hmb hlb (ent_new' (by simp)) (entsAt_alloc (ent_new' rfl)) (by have := hgl.size; simp [heap_drew] at this; omega) (by have := hgl.size; simp [heap_drew] at this; omega) (by omega) (.inr (by omega)) (.inr (by omega)) (by simp)⟩
  case rest =>
  obtain ⟨rfl, sb, rfl, ma, mp, lb, mb, hS, hg, hb1, hb2, hb3, hb4, hb5⟩ := hcut
  have hs0 := g0.size
  go_wp2_with fail
  go_ret2
  exact ⟨sb, rfl, ma, mp, lb, mb, hS, grown_trans g0 hg, by omega, by omega, by omega, by omega, by omega⟩

end Go.Proofs.YtachmkhbbbmioaaGreat

namespace Go.Proofs.YtachmkhbbbmioaaGreat
open Go.RowKit Go.Shelf

set_option maxRecDepth 100000 in
set_option maxHeartbeats 1000000 in
theorem cpNew_any (n s : Nat) (h1 : 1 ≤ s) (h2 : s ≤ n) (h3 : n ≤ 8) (w : World) :
    Calls Tryz.prog 35 #[.agg #[.int .i64 n, .int .i64 s]] w fun e w' => ∃ cb sb ma mp lb mb, e = .returned (.tuple #[.pointer (some ⟨cb, 0, none⟩), .int .i64 0]) ∧ CpAt cb sb ma mp lb mb (newS n s) w' ∧ w.grownBy w' none ∧
      (w.heap.size ≤ cb ∧ w.heap.size ≤ sb ∧ w.heap.size ≤ ma ∧ w.heap.size ≤ mp ∧ w.heap.size ≤ lb ∧ w.heap.size ≤ mb) := by
  have hN := hide (fun w => stNew_any n s h1 h2 h3 w)
  go_enter Tryz.func35, Tryz.ntmps35
  go_wp2_with fail
  refine (hN.out _).mono ?_
  rintro e w1 ⟨sb, ma, mp, lb, mb, rfl, hS, hg, hb1, hb2, hb3, hb4, hb5⟩
  have hsz := hg.size
  simp only [World.size_alloc] at hb1 hb2 hb3 hb4 hb5 hsz
  go_wp2_with fail
  refine bodyPost_ret (v := .tuple #[.pointer (some ⟨w1.heap.size, 0, none⟩), .int .i64 0]) (by simp [results, Tryz.results35, go_sem]) rfl ?_
  refine ⟨w1.heap.size, sb, ma, mp, lb, mb, rfl, ⟨heap_new' rfl, hS.grown (grown_alloc (grown_refl _) _)⟩, ?_, by omega, by omega, by omega, by omega, by omega, by omega⟩
  exact grown_alloc (grown_trans (grown_alloc (grown_refl w) _) hg) _

end Go.Proofs.YtachmkhbbbmioaaGreat
