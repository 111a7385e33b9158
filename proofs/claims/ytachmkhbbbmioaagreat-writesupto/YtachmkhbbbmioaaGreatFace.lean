import Derived.Test.YtachmkhbbbmioaaGreatStClk
import Derived.Test.YtachmkhbbbmioaaGreatLocks
import Derived.Defers
namespace Go.Proofs.YtachmkhbbbmioaaGreat
open Go.RowKit Go.Shelf Go.MuLone

/-- A copy at block cb: its mutex is free, its state lies at sb. -/
structure CpAt (cb sb ma mp lb mb : Nat) (S : CS) (w : World) : Prop where
  cp : w.heap[cb]? = some (.cells #[.int .i32 0, .int .u32 0, .pointer (some ⟨sb, 0, none⟩)] 112)
  st : StAt sb ma mp lb mb S w

/-- The blocks of a copy that a call may turn. -/
abbrev own4 (cb sb ma mb : Nat) : List Nat := [cb, sb, ma, mb]

theorem CpAt.ne {cb sb ma mp lb mb : Nat} {S : CS} {w : World} (h : CpAt cb sb ma mp lb mb S w) : cb ≠ sb ∧ cb ≠ ma ∧ cb ≠ mp ∧ cb ≠ lb ∧ cb ≠ mb := by
  obtain ⟨E, h1, -⟩ := h.st.ln
  obtain ⟨EA, ⟨ca, ha⟩, -⟩ := h.st.app
  obtain ⟨EP, ⟨cp, hp⟩, -⟩ := h.st.pen
  obtain ⟨cbb, hb⟩ := h1.ents
  have h2 := h.cp
  refine ⟨?_, ?_, ?_, ?_, ?_⟩ <;> rintro rfl
  · rw [h.st.st] at h2; cases h2
  · rw [ha] at h2; cases h2
  · rw [hp] at h2; cases h2
  · rw [h1.line] at h2; cases h2
  · rw [hb] at h2; cases h2

/-- While the lock is held the state is as it was. -/
theorem CpAt.locked {cb sb ma mp lb mb : Nat} {S : CS} {w : World} (h : CpAt cb sb ma mp lb mb S w) (v : Value) : StAt sb ma mp lb mb S (w.setCell ⟨cb, 0, none⟩ v) := by
  obtain ⟨n1, n2, n3, n4, n5⟩ := h.ne
  exact h.st.kept (fun k hk => Below.heap_setCell _ _ _ _ (by rcases hk with rfl | rfl | rfl | rfl | rfl <;> exact Ne.symm ‹_›))

/-- Behind the unlock. -/
theorem CpAt.unlock {cb sb ma mp lb mb : Nat} {S' : CS} {w2 : World} (hs : StAt sb ma mp lb mb S' w2) (hk : w2.heap[cb]? = some (.cells #[.int .i32 1, .int .u32 0, .pointer (some ⟨sb, 0, none⟩)] 112)) : CpAt cb sb ma mp lb mb S' (w2.setCell ⟨cb, 0, none⟩ (.int .i32 0)) := by
  have hk' : (w2.setCell ⟨cb, 0, none⟩ (.int .i32 0)).heap[cb]? = some (.cells #[.int .i32 0, .int .u32 0, .pointer (some ⟨sb, 0, none⟩)] 112) := by rw [set_blk hk]; rfl
  refine ⟨hk', hs.kept (fun k hk2 => Below.heap_setCell _ _ _ _ (fun q => ?_))⟩
  obtain ⟨E, h1, -⟩ := hs.ln
  obtain ⟨EA, ⟨ca, ha⟩, -⟩ := hs.app
  obtain ⟨EP, ⟨cp, hp⟩, -⟩ := hs.pen
  obtain ⟨cbb, hb⟩ := h1.ents
  have q' : k = cb := q
  subst q'
  rcases hk2 with rfl | rfl | rfl | rfl | rfl
  · rw [hs.st] at hk; cases hk
  · rw [ha] at hk; cases hk
  · rw [hp] at hk; cases hk
  · rw [h1.line] at hk; cases hk
  · rw [hb] at hk; cases hk

theorem Fr.ofBelow {bs : List Nat} {w w' : World} (h : Below w.heap.size w w') : Fr bs w w' := (Fr.refl bs w).below h (Nat.le_refl _)

set_option maxRecDepth 100000 in
set_option maxHeartbeats 1000000 in
theorem face_len (cb sb ma mp lb mb : Nat) (S : CS) (w : World) (h : CpAt cb sb ma mp lb mb S w) (v : Value) (Post : World → Prop)
    (hin : ∀ w1, w1.heap.size = w.heap.size → StAt sb ma mp lb mb S w1 → Calls Tryz.prog 78 #[.pointer (some ⟨sb, 0, none⟩)] w1 fun e w2 => e = .returned v ∧ Post w2 ∧ Fr (own3 sb ma mb) w1 w2) :
    Calls Tryz.prog 44 #[.pointer (some ⟨cb, 0, none⟩)] w fun e w' => e = .returned v ∧ ∃ w2, Post w2 ∧ w2.heap[cb]? = some (.cells #[.int .i32 1, .int .u32 0, .pointer (some ⟨sb, 0, none⟩)] 112) ∧ w' = w2.setCell ⟨cb, 0, none⟩ (.int .i32 0) ∧ Fr (own4 cb sb ma mb) w w' := by
  have c0 : w.cell? ⟨cb, 0, none⟩ = some (.int .i32 0) := cell_blk h.cp 0
  have f0 : w.frozen? ⟨cb, 0, none⟩ = false := frozen_blk h.cp 0
  obtain ⟨n1, n2, n3, n4, n5⟩ := h.ne
  have hS1 := h.locked (.int .i32 1)
  have k1 : (w.setCell ⟨cb, 0, none⟩ (.int .i32 1)).heap[cb]? = some (.cells #[.int .i32 1, .int .u32 0, .pointer (some ⟨sb, 0, none⟩)] 112) := by rw [set_blk h.cp]; rfl
  have c2 : (w.setCell ⟨cb, 0, none⟩ (.int .i32 1)).cell? ⟨cb, 2, none⟩ = some (.pointer (some ⟨sb, 0, none⟩)) := cell_blk k1 2
  have hF1 : Fr (own4 cb sb ma mb) w (w.setCell ⟨cb, 0, none⟩ (.int .i32 1)) := (Fr.refl _ w).setCell (.inl (by simp)) _
  have hC := hide (hin (w.setCell ⟨cb, 0, none⟩ (.int .i32 1)) (by simp [World.setCell]) hS1)
  clear hin
  go_enter_defers Tryz.func44, Tryz.ntmps44
  go_wp2_with (go_at_call 59; refine (lock_free muLib ⟨cb, 0, none⟩ _ c0 f0).mono ?_; rintro e w' ⟨rfl, rfl⟩)
  refine hC.out.mono ?_
  rintro e w2 ⟨rfl, hP, hF2⟩
  have k2 : w2.heap[cb]? = some (.cells #[.int .i32 1, .int .u32 0, .pointer (some ⟨sb, 0, none⟩)] 112) := hF2.blk k1 (by simp [n1, n2, n5])
  go_wp2_with fail
  refine leaves_cons (f := 60) (args := #[.pointer (some ⟨cb, 0, none⟩)]) (by simp) (by simp [go_sem]) ?_
  refine (unlock_deferred muLib ⟨cb, 0, none⟩ .returning _ (cell_blk k2 0) (frozen_blk k2 0)).mono ?_
  rintro e u' w3 ⟨rfl, rfl, rfl⟩
  exact ⟨_, results_tmp rfl _ _ _, rfl, w2, hP, k2, rfl, (hF1.trans (hF2.mono (by simp))).setCell (.inl (by simp)) _⟩

set_option maxRecDepth 100000 in
set_option maxHeartbeats 1000000 in
theorem face_text (cb sb ma mp lb mb : Nat) (S : CS) (w : World) (h : CpAt cb sb ma mp lb mb S w) (v : Value) (Post : World → Prop)
    (hin : ∀ w1, w1.heap.size = w.heap.size → StAt sb ma mp lb mb S w1 → Calls Tryz.prog 61 #[.pointer (some ⟨sb, 0, none⟩)] w1 fun e w2 => e = .returned v ∧ Post w2 ∧ Fr (own3 sb ma mb) w1 w2) :
    Calls Tryz.prog 26 #[.pointer (some ⟨cb, 0, none⟩)] w fun e w' => e = .returned v ∧ ∃ w2, Post w2 ∧ w2.heap[cb]? = some (.cells #[.int .i32 1, .int .u32 0, .pointer (some ⟨sb, 0, none⟩)] 112) ∧ w' = w2.setCell ⟨cb, 0, none⟩ (.int .i32 0) ∧ Fr (own4 cb sb ma mb) w w' := by
  have c0 : w.cell? ⟨cb, 0, none⟩ = some (.int .i32 0) := cell_blk h.cp 0
  have f0 : w.frozen? ⟨cb, 0, none⟩ = false := frozen_blk h.cp 0
  obtain ⟨n1, n2, n3, n4, n5⟩ := h.ne
  have hS1 := h.locked (.int .i32 1)
  have k1 : (w.setCell ⟨cb, 0, none⟩ (.int .i32 1)).heap[cb]? = some (.cells #[.int .i32 1, .int .u32 0, .pointer (some ⟨sb, 0, none⟩)] 112) := by rw [set_blk h.cp]; rfl
  have c2 : (w.setCell ⟨cb, 0, none⟩ (.int .i32 1)).cell? ⟨cb, 2, none⟩ = some (.pointer (some ⟨sb, 0, none⟩)) := cell_blk k1 2
  have hF1 : Fr (own4 cb sb ma mb) w (w.setCell ⟨cb, 0, none⟩ (.int .i32 1)) := (Fr.refl _ w).setCell (.inl (by simp)) _
  have hC := hide (hin (w.setCell ⟨cb, 0, none⟩ (.int .i32 1)) (by simp [World.setCell]) hS1)
  clear hin
  go_enter_defers Tryz.func26, Tryz.ntmps26
  go_wp2_with (go_at_call 59; refine (lock_free muLib ⟨cb, 0, none⟩ _ c0 f0).mono ?_; rintro e w' ⟨rfl, rfl⟩)
  refine hC.out.mono ?_
  rintro e w2 ⟨rfl, hP, hF2⟩
  have k2 : w2.heap[cb]? = some (.cells #[.int .i32 1, .int .u32 0, .pointer (some ⟨sb, 0, none⟩)] 112) := hF2.blk k1 (by simp [n1, n2, n5])
  go_wp2_with fail
  refine leaves_cons (f := 60) (args := #[.pointer (some ⟨cb, 0, none⟩)]) (by simp) (by simp [go_sem]) ?_
  refine (unlock_deferred muLib ⟨cb, 0, none⟩ .returning _ (cell_blk k2 0) (frozen_blk k2 0)).mono ?_
  rintro e u' w3 ⟨rfl, rfl, rfl⟩
  exact ⟨_, results_tmp rfl _ _ _, rfl, w2, hP, k2, rfl, (hF1.trans (hF2.mono (by simp))).setCell (.inl (by simp)) _⟩

set_option maxRecDepth 100000 in
set_option maxHeartbeats 1000000 in
theorem face_clock (cb sb ma mp lb mb : Nat) (S : CS) (w : World) (h : CpAt cb sb ma mp lb mb S w) (v : Value) (Post : World → Prop)
    (hin : ∀ w1, w1.heap.size = w.heap.size → StAt sb ma mp lb mb S w1 → Calls Tryz.prog 62 #[.pointer (some ⟨sb, 0, none⟩)] w1 fun e w2 => e = .returned v ∧ Post w2 ∧ Fr (own3 sb ma mb) w1 w2) :
    Calls Tryz.prog 28 #[.pointer (some ⟨cb, 0, none⟩)] w fun e w' => e = .returned v ∧ ∃ w2, Post w2 ∧ w2.heap[cb]? = some (.cells #[.int .i32 1, .int .u32 0, .pointer (some ⟨sb, 0, none⟩)] 112) ∧ w' = w2.setCell ⟨cb, 0, none⟩ (.int .i32 0) ∧ Fr (own4 cb sb ma mb) w w' := by
  have c0 : w.cell? ⟨cb, 0, none⟩ = some (.int .i32 0) := cell_blk h.cp 0
  have f0 : w.frozen? ⟨cb, 0, none⟩ = false := frozen_blk h.cp 0
  obtain ⟨n1, n2, n3, n4, n5⟩ := h.ne
  have hS1 := h.locked (.int .i32 1)
  have k1 : (w.setCell ⟨cb, 0, none⟩ (.int .i32 1)).heap[cb]? = some (.cells #[.int .i32 1, .int .u32 0, .pointer (some ⟨sb, 0, none⟩)] 112) := by rw [set_blk h.cp]; rfl
  have c2 : (w.setCell ⟨cb, 0, none⟩ (.int .i32 1)).cell? ⟨cb, 2, none⟩ = some (.pointer (some ⟨sb, 0, none⟩)) := cell_blk k1 2
  have hF1 : Fr (own4 cb sb ma mb) w (w.setCell ⟨cb, 0, none⟩ (.int .i32 1)) := (Fr.refl _ w).setCell (.inl (by simp)) _
  have hC := hide (hin (w.setCell ⟨cb, 0, none⟩ (.int .i32 1)) (by simp [World.setCell]) hS1)
  clear hin
  go_enter_defers Tryz.func28, Tryz.ntmps28
  go_wp2_with (go_at_call 59; refine (lock_free muLib ⟨cb, 0, none⟩ _ c0 f0).mono ?_; rintro e w' ⟨rfl, rfl⟩)
  refine hC.out.mono ?_
  rintro e w2 ⟨rfl, hP, hF2⟩
  have k2 : w2.heap[cb]? = some (.cells #[.int .i32 1, .int .u32 0, .pointer (some ⟨sb, 0, none⟩)] 112) := hF2.blk k1 (by simp [n1, n2, n5])
  go_wp2_with fail
  refine leaves_cons (f := 60) (args := #[.pointer (some ⟨cb, 0, none⟩)]) (by simp) (by simp [go_sem]) ?_
  refine (unlock_deferred muLib ⟨cb, 0, none⟩ .returning _ (cell_blk k2 0) (frozen_blk k2 0)).mono ?_
  rintro e u' w3 ⟨rfl, rfl, rfl⟩
  exact ⟨_, results_tmp rfl _ _ _, rfl, w2, hP, k2, rfl, (hF1.trans (hF2.mono (by simp))).setCell (.inl (by simp)) _⟩

set_option maxRecDepth 100000 in
set_option maxHeartbeats 1000000 in
theorem face_ins (cb sb ma mp lb mb : Nat) (S : CS) (p r : Int) (w : World) (h : CpAt cb sb ma mp lb mb S w) (v : Value) (Post : World → Prop)
    (hin : ∀ w1, w1.heap.size = w.heap.size → StAt sb ma mp lb mb S w1 → Calls Tryz.prog 81 #[.pointer (some ⟨sb, 0, none⟩), .int .i64 p, .int .i32 r] w1 fun e w2 => e = .returned v ∧ Post w2 ∧ Fr (own3 sb ma mb) w1 w2) :
    Calls Tryz.prog 54 #[.pointer (some ⟨cb, 0, none⟩), .int .i64 p, .int .i32 r] w fun e w' => e = .returned v ∧ ∃ w2, Post w2 ∧ w2.heap[cb]? = some (.cells #[.int .i32 1, .int .u32 0, .pointer (some ⟨sb, 0, none⟩)] 112) ∧ w' = w2.setCell ⟨cb, 0, none⟩ (.int .i32 0) ∧ Fr (own4 cb sb ma mb) w w' := by
  have c0 : w.cell? ⟨cb, 0, none⟩ = some (.int .i32 0) := cell_blk h.cp 0
  have f0 : w.frozen? ⟨cb, 0, none⟩ = false := frozen_blk h.cp 0
  obtain ⟨n1, n2, n3, n4, n5⟩ := h.ne
  have hS1 := h.locked (.int .i32 1)
  have k1 : (w.setCell ⟨cb, 0, none⟩ (.int .i32 1)).heap[cb]? = some (.cells #[.int .i32 1, .int .u32 0, .pointer (some ⟨sb, 0, none⟩)] 112) := by rw [set_blk h.cp]; rfl
  have c2 : (w.setCell ⟨cb, 0, none⟩ (.int .i32 1)).cell? ⟨cb, 2, none⟩ = some (.pointer (some ⟨sb, 0, none⟩)) := cell_blk k1 2
  have hF1 : Fr (own4 cb sb ma mb) w (w.setCell ⟨cb, 0, none⟩ (.int .i32 1)) := (Fr.refl _ w).setCell (.inl (by simp)) _
  have hC := hide (hin (w.setCell ⟨cb, 0, none⟩ (.int .i32 1)) (by simp [World.setCell]) hS1)
  clear hin
  go_enter_defers Tryz.func54, Tryz.ntmps54
  go_wp2_with (go_at_call 59; refine (lock_free muLib ⟨cb, 0, none⟩ _ c0 f0).mono ?_; rintro e w' ⟨rfl, rfl⟩)
  refine hC.out.mono ?_
  rintro e w2 ⟨rfl, hP, hF2⟩
  have k2 : w2.heap[cb]? = some (.cells #[.int .i32 1, .int .u32 0, .pointer (some ⟨sb, 0, none⟩)] 112) := hF2.blk k1 (by simp [n1, n2, n5])
  go_wp2_with fail
  refine leaves_cons (f := 60) (args := #[.pointer (some ⟨cb, 0, none⟩)]) (by simp) (by simp [go_sem]) ?_
  refine (unlock_deferred muLib ⟨cb, 0, none⟩ .returning _ (cell_blk k2 0) (frozen_blk k2 0)).mono ?_
  rintro e u' w3 ⟨rfl, rfl, rfl⟩
  exact ⟨_, results_tmp rfl _ _ _, rfl, w2, hP, k2, rfl, (hF1.trans (hF2.mono (by simp))).setCell (.inl (by simp)) _⟩

set_option maxRecDepth 100000 in
set_option maxHeartbeats 1000000 in
theorem face_del (cb sb ma mp lb mb : Nat) (S : CS) (p : Int) (w : World) (h : CpAt cb sb ma mp lb mb S w) (v : Value) (Post : World → Prop)
    (hin : ∀ w1, w1.heap.size = w.heap.size → StAt sb ma mp lb mb S w1 → Calls Tryz.prog 110 #[.pointer (some ⟨sb, 0, none⟩), .int .i64 p] w1 fun e w2 => e = .returned v ∧ Post w2 ∧ Fr (own3 sb ma mb) w1 w2) :
    Calls Tryz.prog 82 #[.pointer (some ⟨cb, 0, none⟩), .int .i64 p] w fun e w' => e = .returned v ∧ ∃ w2, Post w2 ∧ w2.heap[cb]? = some (.cells #[.int .i32 1, .int .u32 0, .pointer (some ⟨sb, 0, none⟩)] 112) ∧ w' = w2.setCell ⟨cb, 0, none⟩ (.int .i32 0) ∧ Fr (own4 cb sb ma mb) w w' := by
  have c0 : w.cell? ⟨cb, 0, none⟩ = some (.int .i32 0) := cell_blk h.cp 0
  have f0 : w.frozen? ⟨cb, 0, none⟩ = false := frozen_blk h.cp 0
  obtain ⟨n1, n2, n3, n4, n5⟩ := h.ne
  have hS1 := h.locked (.int .i32 1)
  have k1 : (w.setCell ⟨cb, 0, none⟩ (.int .i32 1)).heap[cb]? = some (.cells #[.int .i32 1, .int .u32 0, .pointer (some ⟨sb, 0, none⟩)] 112) := by rw [set_blk h.cp]; rfl
  have c2 : (w.setCell ⟨cb, 0, none⟩ (.int .i32 1)).cell? ⟨cb, 2, none⟩ = some (.pointer (some ⟨sb, 0, none⟩)) := cell_blk k1 2
  have hF1 : Fr (own4 cb sb ma mb) w (w.setCell ⟨cb, 0, none⟩ (.int .i32 1)) := (Fr.refl _ w).setCell (.inl (by simp)) _
  have hC := hide (hin (w.setCell ⟨cb, 0, none⟩ (.int .i32 1)) (by simp [World.setCell]) hS1)
  clear hin
  go_enter_defers Tryz.func82, Tryz.ntmps82
  go_wp2_with (go_at_call 59; refine (lock_free muLib ⟨cb, 0, none⟩ _ c0 f0).mono ?_; rintro e w' ⟨rfl, rfl⟩)
  refine hC.out.mono ?_
  rintro e w2 ⟨rfl, hP, hF2⟩
  have k2 : w2.heap[cb]? = some (.cells #[.int .i32 1, .int .u32 0, .pointer (some ⟨sb, 0, none⟩)] 112) := hF2.blk k1 (by simp [n1, n2, n5])
  go_wp2_with fail
  refine leaves_cons (f := 60) (args := #[.pointer (some ⟨cb, 0, none⟩)]) (by simp) (by simp [go_sem]) ?_
  refine (unlock_deferred muLib ⟨cb, 0, none⟩ .returning _ (cell_blk k2 0) (frozen_blk k2 0)).mono ?_
  rintro e u' w3 ⟨rfl, rfl, rfl⟩
  exact ⟨_, results_tmp rfl _ _ _, rfl, w2, hP, k2, rfl, (hF1.trans (hF2.mono (by simp))).setCell (.inl (by simp)) _⟩

end Go.Proofs.YtachmkhbbbmioaaGreat
