import Derived.Test.YtachmkhbbbmioaaGreatCuCX
namespace Go.Proofs.YtachmkhbbbmioaaGreat
open Go.RowKit Go.Shelf

theorem set15_blk {w : World} {B : Nat} {e : TypeId} {a0 a1 a2 a3 a4 a5 a6 a7 a8 a9 a10 a11 a12 a13 a14 v0 v1 v2 v3 v4 v5 v6 v7 v8 v9 v10 v11 v12 v13 v14 : Value} (h : w.heap[B]? = some (.cells #[a0, a1, a2, a3, a4, a5, a6, a7, a8, a9, a10, a11, a12, a13, a14] e)) : (((((((((((((((w.setCell ⟨B, 0, none⟩ v0).setCell ⟨B, 1, none⟩ v1).setCell ⟨B, 2, none⟩ v2).setCell ⟨B, 3, none⟩ v3).setCell ⟨B, 4, none⟩ v4).setCell ⟨B, 5, none⟩ v5).setCell ⟨B, 6, none⟩ v6).setCell ⟨B, 7, none⟩ v7).setCell ⟨B, 8, none⟩ v8).setCell ⟨B, 9, none⟩ v9).setCell ⟨B, 10, none⟩ v10).setCell ⟨B, 11, none⟩ v11).setCell ⟨B, 12, none⟩ v12).setCell ⟨B, 13, none⟩ v13).setCell ⟨B, 14, none⟩ v14).heap[B]? = some (.cells #[v0, v1, v2, v3, v4, v5, v6, v7, v8, v9, v10, v11, v12, v13, v14] e) := by
  have h0 := set_blk (i := 0) (v := v0) h
  have h1 := set_blk (i := 1) (v := v1) h0
  have h2 := set_blk (i := 2) (v := v2) h1
  have h3 := set_blk (i := 3) (v := v3) h2
  have h4 := set_blk (i := 4) (v := v4) h3
  have h5 := set_blk (i := 5) (v := v5) h4
  have h6 := set_blk (i := 6) (v := v6) h5
  have h7 := set_blk (i := 7) (v := v7) h6
  have h8 := set_blk (i := 8) (v := v8) h7
  have h9 := set_blk (i := 9) (v := v9) h8
  have h10 := set_blk (i := 10) (v := v10) h9
  have h11 := set_blk (i := 11) (v := v11) h10
  have h12 := set_blk (i := 12) (v := v12) h11
  have h13 := set_blk (i := 13) (v := v13) h12
  have h14 := set_blk (i := 14) (v := v14) h13
  refine h14.trans ?_
  simp

theorem opArr_clock (o num c kind tc tk r : Int) (q : Nat → Int) : ∀ i, i < 8 → (opArr o num c kind tc tk r q)[7 + i]? = some (.int .i64 (q i))
  | 0, _ => rfl | 1, _ => rfl | 2, _ => rfl | 3, _ => rfl | 4, _ => rfl | 5, _ => rfl | 6, _ => rfl | 7, _ => rfl
  | _ + 8, h => by omega

theorem rune_dec {L L' : List UInt8} {b b' : Bool} {r : Int} (h : Dec vbI Sc L b r L' b') : Hid (Dec (rEnc 0) (rOk 0) L b r L' b') := by
  refine hide ⟨fun q => ?_, fun q u rest hu hL => ?_⟩
  · obtain ⟨h1, h2, h3⟩ := h.1 q
    exact ⟨h1, ⟨fun _ => h2, fun z => by omega⟩, by simpa [rEnc] using h3⟩
  · exact h.2 q u rest (hu.1 rfl) (by simpa [rEnc] using hL)

theorem no_rune_dec (L : List UInt8) (b : Bool) : Hid (Dec (rEnc 1) (rOk 1) L b 0 L b) := by
  refine hide ⟨fun q => ⟨q, ⟨fun z => by omega, fun _ => rfl⟩, by simp [rEnc]⟩, fun q u rest hu hL => ⟨q, (hu.2 rfl).symm, by simpa [rEnc] using hL⟩⟩

set_option maxRecDepth 100000 in
set_option maxHeartbeats 2000000 in
theorem operationP (rb n : Nat) (h1 : 1 ≤ n) (h8 : n ≤ 8) (L : List UInt8) (bad : Bool) (hl : L.length ≤ 1000) (w : World) (h : RdAt rb n L bad w) :
    Calls Tryz.prog 153 #[.pointer (some ⟨rb, 0, none⟩)] w fun e w' => ∃ x L' bad', e = .returned (.agg (OpR.arr x)) ∧ RdAt rb n L' bad' w' ∧ Fr [rb] w w' ∧ Dec (OpR.bytes n) (Ok8 n) L bad x L' bad' ∧ L'.length ≤ L.length := by
  have hrlt : rb < w.heap.size := lt_of_heap h
  go_enter Tryz.func153, Tryz.ntmps153
  go_upto_region 2 with fail
  have g1 : w.grownBy ((w.alloc (.cells #[.int .i64 0, .int .i64 0, .int .i64 0, .int .i64 0, .int .i64 0, .int .i64 0, .int .i32 0, .int .i64 0, .int .i64 0, .int .i64 0, .int .i64 0, .int .i64 0, .int .i64 0, .int .i64 0, .int .i64 0] 154)).alloc (.cells #[.int .i64 0, .int .i64 0, .int .i64 0, .int .i64 0, .int .i64 0, .int .i64 0, .int .i32 0, .int .i64 0, .int .i64 0, .int .i64 0, .int .i64 0, .int .i64 0, .int .i64 0, .int .i64 0, .int .i64 0] 154)) none := grown_alloc (grown_alloc (grown_refl _) _) _
  have k2 : ((w.alloc (.cells #[.int .i64 0, .int .i64 0, .int .i64 0, .int .i64 0, .int .i64 0, .int .i64 0, .int .i32 0, .int .i64 0, .int .i64 0, .int .i64 0, .int .i64 0, .int .i64 0, .int .i64 0, .int .i64 0, .int .i64 0] 154)).alloc (.cells #[.int .i64 0, .int .i64 0, .int .i64 0, .int .i64 0, .int .i64 0, .int .i64 0, .int .i32 0, .int .i64 0, .int .i64 0, .int .i64 0, .int .i64 0, .int .i64 0, .int .i64 0, .int .i64 0, .int .i64 0] 154)).heap[w.heap.size]? = some (.cells #[.int .i64 0, .int .i64 0, .int .i64 0, .int .i64 0, .int .i64 0, .int .i64 0, .int .i32 0, .int .i64 0, .int .i64 0, .int .i64 0, .int .i64 0, .int .i64 0, .int .i64 0, .int .i64 0, .int .i64 0] 154) := by simp only [heap_alloc_at, World.size_alloc]; simp
  have k3 : ((w.alloc (.cells #[.int .i64 0, .int .i64 0, .int .i64 0, .int .i64 0, .int .i64 0, .int .i64 0, .int .i32 0, .int .i64 0, .int .i64 0, .int .i64 0, .int .i64 0, .int .i64 0, .int .i64 0, .int .i64 0, .int .i64 0] 154)).alloc (.cells #[.int .i64 0, .int .i64 0, .int .i64 0, .int .i64 0, .int .i64 0, .int .i64 0, .int .i32 0, .int .i64 0, .int .i64 0, .int .i64 0, .int .i64 0, .int .i64 0, .int .i64 0, .int .i64 0, .int .i64 0] 154)).heap[w.heap.size + 1]? = some (.cells #[.int .i64 0, .int .i64 0, .int .i64 0, .int .i64 0, .int .i64 0, .int .i64 0, .int .i32 0, .int .i64 0, .int .i64 0, .int .i64 0, .int .i64 0, .int .i64 0, .int .i64 0, .int .i64 0, .int .i64 0] 154) := by simp only [heap_alloc_at, World.size_alloc]; simp
  generalize ((w.alloc (.cells #[.int .i64 0, .int .i64 0, .int .i64 0, .int .i64 0, .int .i64 0, .int .i64 0, .int .i32 0, .int .i64 0, .int .i64 0, .int .i64 0, .int .i64 0, .int .i64 0, .int .i64 0, .int .i64 0, .int .i64 0] 154)).alloc (.cells #[.int .i64 0, .int .i64 0, .int .i64 0, .int .i64 0, .int .i64 0, .int .i64 0, .int .i32 0, .int .i64 0, .int .i64 0, .int .i64 0, .int .i64 0, .int .i64 0, .int .i64 0, .int .i64 0, .int .i64 0] 154)) = w1 at g1 k2 k3 ⊢
  have hR : RdAt rb n L bad w1 := (g1.block _ hrlt (by simp)).trans h
  have hF : Fr [rb] w w1 := Fr.ofGrown g1
  obtain ⟨b2, hb2⟩ : ∃ b, w.heap.size = b := ⟨_, rfl⟩
  rw [hb2] at k2 k3 ⊢
  have n1 : b2 ≠ rb := by omega
  have n2 : b2 + 1 ≠ rb := by omega
  have c0 : w1.cell? ⟨rb, 0, none⟩ = some (.int .i64 n) := cell_blk hR 0
  clear h g1
  have H1 := hide (smallP rb n 1 n (by omega) (by omega) L bad (by omega) w1 hR)
  go_wp2_with fail
  refine H1.out.mono ?_
  rintro e u1 ⟨o, L1, b1, rfl, hN1⟩
  have i1 := hN1.inn (by omega)
  have l1 := hN1.len
  have q3 := hN1.fr.blk k3 (by simpa using n2)
  have q2 := hN1.fr.blk k2 (by simpa using n1)
  have d : u1.cell? ⟨b2 + 1, 0, none⟩ = some (.int .i64 0) := cell_blk q3 0
  have f : u1.frozen? ⟨b2 + 1, 0, none⟩ = false := frozen_blk q3 0
  go_upto_region 3 with fail
  have r3 : (u1.setCell ⟨b2 + 1, 0, none⟩ (.int .i64 o)).heap[b2 + 1]? = some (.cells #[.int .i64 o, .int .i64 0, .int .i64 0, .int .i64 0, .int .i64 0, .int .i64 0, .int .i32 0, .int .i64 0, .int .i64 0, .int .i64 0, .int .i64 0, .int .i64 0, .int .i64 0, .int .i64 0, .int .i64 0] 154) := by rw [set_blk q3]; rfl
  have r2 : (u1.setCell ⟨b2 + 1, 0, none⟩ (.int .i64 o)).heap[b2]? = some (.cells #[.int .i64 0, .int .i64 0, .int .i64 0, .int .i64 0, .int .i64 0, .int .i64 0, .int .i32 0, .int .i64 0, .int .i64 0, .int .i64 0, .int .i64 0, .int .i64 0, .int .i64 0, .int .i64 0, .int .i64 0] 154) := by rw [Below.heap_setCell _ _ _ _ (by simp)]; exact q2
  have rR : RdAt rb n L1 b1 (u1.setCell ⟨b2 + 1, 0, none⟩ (.int .i64 o)) := by
    have hq := hN1.at'
    unfold RdAt at hq ⊢
    rw [Below.heap_setCell _ _ _ _ (Ne.symm n2)]; exact hq
  have rF : Fr [rb] w (u1.setCell ⟨b2 + 1, 0, none⟩ (.int .i64 o)) := (hF.trans hN1.fr).setCell (.inr (by simp; omega)) _
  have D1 := hide hN1.dec
  generalize (u1.setCell ⟨b2 + 1, 0, none⟩ (.int .i64 o)) = w2 at r3 r2 rR rF ⊢
  clear k3 k2 hR hF q3 q2 d f hN1 H1 c0
  rename w2.heap[b2 + 1]? = _ => k3
  rename w2.heap[b2]? = _ => k2
  rename RdAt rb n L1 b1 w2 => hR
  rename Fr [rb] w w2 => hF
  have H2 := hide (smallP rb n 1 100 (by omega) (by omega) L1 b1 (by omega) w2 hR)
  go_wp2_with fail
  refine H2.out.mono ?_
  rintro e u2 ⟨num, L2, b2', rfl, hN2⟩
  have i2 := hN2.inn (by omega)
  have l2 := hN2.len
  have q3 := hN2.fr.blk k3 (by simpa using n2)
  have q2 := hN2.fr.blk k2 (by simpa using n1)
  have d : u2.cell? ⟨b2 + 1, 1, none⟩ = some (.int .i64 0) := cell_blk q3 1
  have f : u2.frozen? ⟨b2 + 1, 1, none⟩ = false := frozen_blk q3 1
  go_upto_region 4 with fail
  have r3 : (u2.setCell ⟨b2 + 1, 1, none⟩ (.int .i64 num)).heap[b2 + 1]? = some (.cells #[.int .i64 o, .int .i64 num, .int .i64 0, .int .i64 0, .int .i64 0, .int .i64 0, .int .i32 0, .int .i64 0, .int .i64 0, .int .i64 0, .int .i64 0, .int .i64 0, .int .i64 0, .int .i64 0, .int .i64 0] 154) := by rw [set_blk q3]; rfl
  have r2 : (u2.setCell ⟨b2 + 1, 1, none⟩ (.int .i64 num)).heap[b2]? = some (.cells #[.int .i64 0, .int .i64 0, .int .i64 0, .int .i64 0, .int .i64 0, .int .i64 0, .int .i32 0, .int .i64 0, .int .i64 0, .int .i64 0, .int .i64 0, .int .i64 0, .int .i64 0, .int .i64 0, .int .i64 0] 154) := by rw [Below.heap_setCell _ _ _ _ (by simp)]; exact q2
  have rR : RdAt rb n L2 b2' (u2.setCell ⟨b2 + 1, 1, none⟩ (.int .i64 num)) := by
    have hq := hN2.at'
    unfold RdAt at hq ⊢
    rw [Below.heap_setCell _ _ _ _ (Ne.symm n2)]; exact hq
  have rF : Fr [rb] w (u2.setCell ⟨b2 + 1, 1, none⟩ (.int .i64 num)) := (hF.trans hN2.fr).setCell (.inr (by simp; omega)) _
  have D2 := hide hN2.dec
  generalize (u2.setCell ⟨b2 + 1, 1, none⟩ (.int .i64 num)) = w3 at r3 r2 rR rF ⊢
  clear k3 k2 hR hF q3 q2 d f hN2 H2
  rename w3.heap[b2 + 1]? = _ => k3
  rename w3.heap[b2]? = _ => k2
  rename RdAt rb n L2 b2' w3 => hR
  rename Fr [rb] w w3 => hF
  have H3 := hide (numberP rb n 1 1099511627776 (by omega) (by omega) L2 b2' (by omega) w3 hR)
  go_wp2_with fail
  refine H3.out.mono ?_
  rintro e u3 ⟨c, L3, b3, rfl, hN3⟩
  have i3 := hN3.inn (by omega)
  have l3 := hN3.len
  have q3 := hN3.fr.blk k3 (by simpa using n2)
  have q2 := hN3.fr.blk k2 (by simpa using n1)
  have d : u3.cell? ⟨b2 + 1, 2, none⟩ = some (.int .i64 0) := cell_blk q3 2
  have f : u3.frozen? ⟨b2 + 1, 2, none⟩ = false := frozen_blk q3 2
  go_upto_region 5 with fail
  have r3 : (u3.setCell ⟨b2 + 1, 2, none⟩ (.int .i64 c)).heap[b2 + 1]? = some (.cells #[.int .i64 o, .int .i64 num, .int .i64 c, .int .i64 0, .int .i64 0, .int .i64 0, .int .i32 0, .int .i64 0, .int .i64 0, .int .i64 0, .int .i64 0, .int .i64 0, .int .i64 0, .int .i64 0, .int .i64 0] 154) := by rw [set_blk q3]; rfl
  have r2 : (u3.setCell ⟨b2 + 1, 2, none⟩ (.int .i64 c)).heap[b2]? = some (.cells #[.int .i64 0, .int .i64 0, .int .i64 0, .int .i64 0, .int .i64 0, .int .i64 0, .int .i32 0, .int .i64 0, .int .i64 0, .int .i64 0, .int .i64 0, .int .i64 0, .int .i64 0, .int .i64 0, .int .i64 0] 154) := by rw [Below.heap_setCell _ _ _ _ (by simp)]; exact q2
  have rR : RdAt rb n L3 b3 (u3.setCell ⟨b2 + 1, 2, none⟩ (.int .i64 c)) := by
    have hq := hN3.at'
    unfold RdAt at hq ⊢
    rw [Below.heap_setCell _ _ _ _ (Ne.symm n2)]; exact hq
  have rF : Fr [rb] w (u3.setCell ⟨b2 + 1, 2, none⟩ (.int .i64 c)) := (hF.trans hN3.fr).setCell (.inr (by simp; omega)) _
  have D3 := hide hN3.dec
  generalize (u3.setCell ⟨b2 + 1, 2, none⟩ (.int .i64 c)) = w4 at r3 r2 rR rF ⊢
  clear k3 k2 hR hF q3 q2 d f hN3 H3
  rename w4.heap[b2 + 1]? = _ => k3
  rename w4.heap[b2]? = _ => k2
  rename RdAt rb n L3 b3 w4 => hR
  rename Fr [rb] w w4 => hF
  have H4 := hide (smallP rb n 0 1 (by omega) (by omega) L3 b3 (by omega) w4 hR)
  go_wp2_with fail
  refine H4.out.mono ?_
  rintro e u4 ⟨kind, L4, b4, rfl, hN4⟩
  have i4 := hN4.inn (by omega)
  have l4 := hN4.len
  have q3 := hN4.fr.blk k3 (by simpa using n2)
  have q2 := hN4.fr.blk k2 (by simpa using n1)
  have d : u4.cell? ⟨b2 + 1, 3, none⟩ = some (.int .i64 0) := cell_blk q3 3
  have f : u4.frozen? ⟨b2 + 1, 3, none⟩ = false := frozen_blk q3 3
  go_upto_region 6 with fail
  have r3 : (u4.setCell ⟨b2 + 1, 3, none⟩ (.int .i64 kind)).heap[b2 + 1]? = some (.cells #[.int .i64 o, .int .i64 num, .int .i64 c, .int .i64 kind, .int .i64 0, .int .i64 0, .int .i32 0, .int .i64 0, .int .i64 0, .int .i64 0, .int .i64 0, .int .i64 0, .int .i64 0, .int .i64 0, .int .i64 0] 154) := by rw [set_blk q3]; rfl
  have r2 : (u4.setCell ⟨b2 + 1, 3, none⟩ (.int .i64 kind)).heap[b2]? = some (.cells #[.int .i64 0, .int .i64 0, .int .i64 0, .int .i64 0, .int .i64 0, .int .i64 0, .int .i32 0, .int .i64 0, .int .i64 0, .int .i64 0, .int .i64 0, .int .i64 0, .int .i64 0, .int .i64 0, .int .i64 0] 154) := by rw [Below.heap_setCell _ _ _ _ (by simp)]; exact q2
  have rR : RdAt rb n L4 b4 (u4.setCell ⟨b2 + 1, 3, none⟩ (.int .i64 kind)) := by
    have hq := hN4.at'
    unfold RdAt at hq ⊢
    rw [Below.heap_setCell _ _ _ _ (Ne.symm n2)]; exact hq
  have rF : Fr [rb] w (u4.setCell ⟨b2 + 1, 3, none⟩ (.int .i64 kind)) := (hF.trans hN4.fr).setCell (.inr (by simp; omega)) _
  have D4 := hide hN4.dec
  generalize (u4.setCell ⟨b2 + 1, 3, none⟩ (.int .i64 kind)) = w5 at r3 r2 rR rF ⊢
  clear k3 k2 hR hF q3 q2 d f hN4 H4
  rename w5.heap[b2 + 1]? = _ => k3
  rename w5.heap[b2]? = _ => k2
  rename RdAt rb n L4 b4 w5 => hR
  rename Fr [rb] w w5 => hF
  have H5 : Hid (Calls Tryz.prog 164 #[.pointer (some ⟨rb, 0, none⟩), .agg #[.int .i64 o, .int .i64 num, .int .i64 c, .int .i64 kind, .int .i64 0, .int .i64 0, .int .i32 0, .int .i64 0, .int .i64 0, .int .i64 0, .int .i64 0, .int .i64 0, .int .i64 0, .int .i64 0, .int .i64 0]] w5 fun e w' => ∃ t L' bad', e = .returned (.agg #[.int .i64 t.1, .int .i64 t.2]) ∧ RdAt rb n L' bad' w' ∧ Fr [rb] w5 w' ∧ Dec tEnc (tOk n c kind) L4 b4 t L' bad' ∧ (0 ≤ t.1 ∧ t.1 ≤ 1099511627776 ∧ 0 ≤ t.2 ∧ t.2 ≤ 8) ∧ L'.length ≤ L4.length) := hide (targetP rb n h1 h8 ⟨o, num, c, kind, 0, 0, 0, fun _ => 0⟩ i3 L4 b4 (by omega) w5 hR)
  have d0 : w5.cell? ⟨b2 + 1, 0, none⟩ = some (.int .i64 o) := cell_blk k3 0
  have d1 : w5.cell? ⟨b2 + 1, 1, none⟩ = some (.int .i64 num) := cell_blk k3 1
  have d2 : w5.cell? ⟨b2 + 1, 2, none⟩ = some (.int .i64 c) := cell_blk k3 2
  have d3 : w5.cell? ⟨b2 + 1, 3, none⟩ = some (.int .i64 kind) := cell_blk k3 3
  have d4 : w5.cell? ⟨b2 + 1, 4, none⟩ = some (.int .i64 0) := cell_blk k3 4
  have d5 : w5.cell? ⟨b2 + 1, 5, none⟩ = some (.int .i64 0) := cell_blk k3 5
  have d6 : w5.cell? ⟨b2 + 1, 6, none⟩ = some (.int .i32 0) := cell_blk k3 6
  have d7 : w5.cell? ⟨b2 + 1, 7, none⟩ = some (.int .i64 0) := cell_blk k3 7
  have d8 : w5.cell? ⟨b2 + 1, 8, none⟩ = some (.int .i64 0) := cell_blk k3 8
  have d9 : w5.cell? ⟨b2 + 1, 9, none⟩ = some (.int .i64 0) := cell_blk k3 9
  have d10 : w5.cell? ⟨b2 + 1, 10, none⟩ = some (.int .i64 0) := cell_blk k3 10
  have d11 : w5.cell? ⟨b2 + 1, 11, none⟩ = some (.int .i64 0) := cell_blk k3 11
  have d12 : w5.cell? ⟨b2 + 1, 12, none⟩ = some (.int .i64 0) := cell_blk k3 12
  have d13 : w5.cell? ⟨b2 + 1, 13, none⟩ = some (.int .i64 0) := cell_blk k3 13
  have d14 : w5.cell? ⟨b2 + 1, 14, none⟩ = some (.int .i64 0) := cell_blk k3 14
  go_wp2_with fail
  refine H5.out.mono ?_
  rintro e u5 ⟨t, L5, b5, rfl, hR5, hF5, hd5, -, l5⟩
  obtain ⟨tc, tk⟩ := t
  have q3 := hF5.blk k3 (by simpa using n2)
  have q2 := hF5.blk k2 (by simpa using n1)
  clear d0 d1 d2 d3 d4 d5 d6 d7 d8 d9 d10 d11 d12 d13 d14
  have d4 : u5.cell? ⟨b2 + 1, 4, none⟩ = some (.int .i64 0) := cell_blk q3 4
  have d5 : u5.cell? ⟨b2 + 1, 5, none⟩ = some (.int .i64 0) := cell_blk q3 5
  have f4 : u5.frozen? ⟨b2 + 1, 4, none⟩ = false := frozen_blk q3 4
  have f5 : u5.frozen? ⟨b2 + 1, 5, none⟩ = false := frozen_blk q3 5
  go_upto_region 7 with fail
  have r3 : ((u5.setCell ⟨b2 + 1, 4, none⟩ (.int .i64 tc)).setCell ⟨b2 + 1, 5, none⟩ (.int .i64 tk)).heap[b2 + 1]? = some (.cells #[.int .i64 o, .int .i64 num, .int .i64 c, .int .i64 kind, .int .i64 tc, .int .i64 tk, .int .i32 0, .int .i64 0, .int .i64 0, .int .i64 0, .int .i64 0, .int .i64 0, .int .i64 0, .int .i64 0, .int .i64 0] 154) := by rw [set_blk (set_blk q3)]; rfl
  have r2 : ((u5.setCell ⟨b2 + 1, 4, none⟩ (.int .i64 tc)).setCell ⟨b2 + 1, 5, none⟩ (.int .i64 tk)).heap[b2]? = some (.cells #[.int .i64 0, .int .i64 0, .int .i64 0, .int .i64 0, .int .i64 0, .int .i64 0, .int .i32 0, .int .i64 0, .int .i64 0, .int .i64 0, .int .i64 0, .int .i64 0, .int .i64 0, .int .i64 0, .int .i64 0] 154) := by rw [Below.heap_setCell _ _ _ _ (by simp), Below.heap_setCell _ _ _ _ (by simp)]; exact q2
  have rR : RdAt rb n L5 b5 ((u5.setCell ⟨b2 + 1, 4, none⟩ (.int .i64 tc)).setCell ⟨b2 + 1, 5, none⟩ (.int .i64 tk)) := by
    have hq := hR5
    unfold RdAt at hq ⊢
    rw [Below.heap_setCell _ _ _ _ (Ne.symm n2), Below.heap_setCell _ _ _ _ (Ne.symm n2)]; exact hq
  have rF : Fr [rb] w ((u5.setCell ⟨b2 + 1, 4, none⟩ (.int .i64 tc)).setCell ⟨b2 + 1, 5, none⟩ (.int .i64 tk)) := ((hF.trans hF5).setCell (.inr (by simp; omega)) _).setCell (.inr (by simp; omega)) _
  have D5 := hide hd5
  generalize ((u5.setCell ⟨b2 + 1, 4, none⟩ (.int .i64 tc)).setCell ⟨b2 + 1, 5, none⟩ (.int .i64 tk)) = w6 at r3 r2 rR rF ⊢
  clear k3 k2 hR hF q3 q2 d4 d5 f4 f5 hd5 H5 hR5 hF5
  rename w6.heap[b2 + 1]? = _ => k3
  rename w6.heap[b2]? = _ => k2
  rename RdAt rb n L5 b5 w6 => hR
  rename Fr [rb] w w6 => hF
  have c3 : w6.cell? ⟨b2 + 1, 3, none⟩ = some (.int .i64 kind) := cell_blk k3 3
  rcases (show kind = 0 ∨ kind = 1 by omega) with rfl | rfl
  · have H6 := hide (letterP rb n L5 b5 (by omega) w6 hR)
    go_wp2_with fail
    refine H6.out.mono ?_
    rintro e u6 ⟨r, L6, b6, rfl, hR6, hF6, hd6, hr6, l6⟩
    have q3 := hF6.blk k3 (by simpa using n2)
    have q2 := hF6.blk k2 (by simpa using n1)
    have d : u6.cell? ⟨b2 + 1, 6, none⟩ = some (.int .i32 0) := cell_blk q3 6
    have f : u6.frozen? ⟨b2 + 1, 6, none⟩ = false := frozen_blk q3 6
    go_upto_region 9 with fail
    have r3 : (u6.setCell ⟨b2 + 1, 6, none⟩ (.int .i32 r)).heap[b2 + 1]? = some (.cells #[.int .i64 o, .int .i64 num, .int .i64 c, .int .i64 0, .int .i64 tc, .int .i64 tk, .int .i32 r, .int .i64 0, .int .i64 0, .int .i64 0, .int .i64 0, .int .i64 0, .int .i64 0, .int .i64 0, .int .i64 0] 154) := by rw [set_blk q3]; rfl
    have r2 : (u6.setCell ⟨b2 + 1, 6, none⟩ (.int .i32 r)).heap[b2]? = some (.cells #[.int .i64 0, .int .i64 0, .int .i64 0, .int .i64 0, .int .i64 0, .int .i64 0, .int .i32 0, .int .i64 0, .int .i64 0, .int .i64 0, .int .i64 0, .int .i64 0, .int .i64 0, .int .i64 0, .int .i64 0] 154) := by rw [Below.heap_setCell _ _ _ _ (by simp)]; exact q2
    have rR : RdAt rb n L6 b6 (u6.setCell ⟨b2 + 1, 6, none⟩ (.int .i32 r)) := by
      have hq := hR6
      unfold RdAt at hq ⊢
      rw [Below.heap_setCell _ _ _ _ (Ne.symm n2)]; exact hq
    have rF : Fr [rb] w (u6.setCell ⟨b2 + 1, 6, none⟩ (.int .i32 r)) := (hF.trans hF6).setCell (.inr (by simp; omega)) _
    have D6 : Hid (Dec (rEnc 0) (rOk 0) L5 b5 r L6 b6) := rune_dec hd6
    generalize (u6.setCell ⟨b2 + 1, 6, none⟩ (.int .i32 r)) = w7 at r3 r2 rR rF ⊢
    clear k3 k2 hR hF q3 q2 d f hd6 H6 hR6 hF6 c3
    rename w7.heap[b2 + 1]? = _ => k3
    rename w7.heap[b2]? = _ => k2
    rename RdAt rb n L6 b6 w7 => hR
    rename Fr [rb] w w7 => hF
    have H7 := hide (clockP rb n h8 L6 b6 (by omega) w7 hR)
    go_wp2_with fail
    refine H7.out.mono ?_
    rintro e u7 ⟨q, L7, b7, rfl, hR7, hF7, hd7, hq7, l7⟩
    have q3 := hF7.blk k3 (by simpa using n2)
    have q2 := hF7.blk k2 (by simpa using n1)
    have d0 : u7.cell? ⟨b2 + 1, 7, none⟩ = some (.int .i64 0) := cell_blk q3 7
    have f0 : u7.frozen? ⟨b2 + 1, 7, none⟩ = false := frozen_blk q3 7
    have d1 : u7.cell? ⟨b2 + 1, 8, none⟩ = some (.int .i64 0) := cell_blk q3 8
    have f1 : u7.frozen? ⟨b2 + 1, 8, none⟩ = false := frozen_blk q3 8
    have d2 : u7.cell? ⟨b2 + 1, 9, none⟩ = some (.int .i64 0) := cell_blk q3 9
    have f2 : u7.frozen? ⟨b2 + 1, 9, none⟩ = false := frozen_blk q3 9
    have d3 : u7.cell? ⟨b2 + 1, 10, none⟩ = some (.int .i64 0) := cell_blk q3 10
    have f3 : u7.frozen? ⟨b2 + 1, 10, none⟩ = false := frozen_blk q3 10
    have d4 : u7.cell? ⟨b2 + 1, 11, none⟩ = some (.int .i64 0) := cell_blk q3 11
    have f4 : u7.frozen? ⟨b2 + 1, 11, none⟩ = false := frozen_blk q3 11
    have d5 : u7.cell? ⟨b2 + 1, 12, none⟩ = some (.int .i64 0) := cell_blk q3 12
    have f5 : u7.frozen? ⟨b2 + 1, 12, none⟩ = false := frozen_blk q3 12
    have d6 : u7.cell? ⟨b2 + 1, 13, none⟩ = some (.int .i64 0) := cell_blk q3 13
    have f6 : u7.frozen? ⟨b2 + 1, 13, none⟩ = false := frozen_blk q3 13
    have d7 : u7.cell? ⟨b2 + 1, 14, none⟩ = some (.int .i64 0) := cell_blk q3 14
    have f7 : u7.frozen? ⟨b2 + 1, 14, none⟩ = false := frozen_blk q3 14
    unfold ckArr
    go_upto_region 10 with fail

    have r3 : ((((((((u7.setCell ⟨b2 + 1, 7, none⟩ (.int .i64 (q 0))).setCell ⟨b2 + 1, 8, none⟩ (.int .i64 (q 1))).setCell ⟨b2 + 1, 9, none⟩ (.int .i64 (q 2))).setCell ⟨b2 + 1, 10, none⟩ (.int .i64 (q 3))).setCell ⟨b2 + 1, 11, none⟩ (.int .i64 (q 4))).setCell ⟨b2 + 1, 12, none⟩ (.int .i64 (q 5))).setCell ⟨b2 + 1, 13, none⟩ (.int .i64 (q 6))).setCell ⟨b2 + 1, 14, none⟩ (.int .i64 (q 7))).heap[b2 + 1]? = some (.cells #[.int .i64 o, .int .i64 num, .int .i64 c, .int .i64 0, .int .i64 tc, .int .i64 tk, .int .i32 r, .int .i64 (q 0), .int .i64 (q 1), .int .i64 (q 2), .int .i64 (q 3), .int .i64 (q 4), .int .i64 (q 5), .int .i64 (q 6), .int .i64 (q 7)] 154) := by
      refine (set_blk (i := 14) (v := .int .i64 (q 7)) (set_blk (i := 13) (v := .int .i64 (q 6)) (set_blk (i := 12) (v := .int .i64 (q 5)) (set_blk (i := 11) (v := .int .i64 (q 4)) (set_blk (i := 10) (v := .int .i64 (q 3)) (set_blk (i := 9) (v := .int .i64 (q 2)) (set_blk (i := 8) (v := .int .i64 (q 1)) (set_blk (i := 7) (v := .int .i64 (q 0)) (q3))))))))).trans ?_
      simp
    have r2 : ((((((((u7.setCell ⟨b2 + 1, 7, none⟩ (.int .i64 (q 0))).setCell ⟨b2 + 1, 8, none⟩ (.int .i64 (q 1))).setCell ⟨b2 + 1, 9, none⟩ (.int .i64 (q 2))).setCell ⟨b2 + 1, 10, none⟩ (.int .i64 (q 3))).setCell ⟨b2 + 1, 11, none⟩ (.int .i64 (q 4))).setCell ⟨b2 + 1, 12, none⟩ (.int .i64 (q 5))).setCell ⟨b2 + 1, 13, none⟩ (.int .i64 (q 6))).setCell ⟨b2 + 1, 14, none⟩ (.int .i64 (q 7))).heap[b2]? = some (.cells #[.int .i64 0, .int .i64 0, .int .i64 0, .int .i64 0, .int .i64 0, .int .i64 0, .int .i32 0, .int .i64 0, .int .i64 0, .int .i64 0, .int .i64 0, .int .i64 0, .int .i64 0, .int .i64 0, .int .i64 0] 154) := by
      iterate 8 rw [Below.heap_setCell _ _ _ _ (by simp)]
      exact q2
    have rR : RdAt rb n L7 b7 ((((((((u7.setCell ⟨b2 + 1, 7, none⟩ (.int .i64 (q 0))).setCell ⟨b2 + 1, 8, none⟩ (.int .i64 (q 1))).setCell ⟨b2 + 1, 9, none⟩ (.int .i64 (q 2))).setCell ⟨b2 + 1, 10, none⟩ (.int .i64 (q 3))).setCell ⟨b2 + 1, 11, none⟩ (.int .i64 (q 4))).setCell ⟨b2 + 1, 12, none⟩ (.int .i64 (q 5))).setCell ⟨b2 + 1, 13, none⟩ (.int .i64 (q 6))).setCell ⟨b2 + 1, 14, none⟩ (.int .i64 (q 7))) := by
      have hq := hR7
      unfold RdAt at hq ⊢
      iterate 8 rw [Below.heap_setCell _ _ _ _ (Ne.symm n2)]
      exact hq
    have rF : Fr [rb] w ((((((((u7.setCell ⟨b2 + 1, 7, none⟩ (.int .i64 (q 0))).setCell ⟨b2 + 1, 8, none⟩ (.int .i64 (q 1))).setCell ⟨b2 + 1, 9, none⟩ (.int .i64 (q 2))).setCell ⟨b2 + 1, 10, none⟩ (.int .i64 (q 3))).setCell ⟨b2 + 1, 11, none⟩ (.int .i64 (q 4))).setCell ⟨b2 + 1, 12, none⟩ (.int .i64 (q 5))).setCell ⟨b2 + 1, 13, none⟩ (.int .i64 (q 6))).setCell ⟨b2 + 1, 14, none⟩ (.int .i64 (q 7))) := by
      iterate 8 refine Fr.setCell ?_ (.inr (by simp; omega)) _
      exact hF.trans hF7
    have D7 := hide hd7
    generalize ((((((((u7.setCell ⟨b2 + 1, 7, none⟩ (.int .i64 (q 0))).setCell ⟨b2 + 1, 8, none⟩ (.int .i64 (q 1))).setCell ⟨b2 + 1, 9, none⟩ (.int .i64 (q 2))).setCell ⟨b2 + 1, 10, none⟩ (.int .i64 (q 3))).setCell ⟨b2 + 1, 11, none⟩ (.int .i64 (q 4))).setCell ⟨b2 + 1, 12, none⟩ (.int .i64 (q 5))).setCell ⟨b2 + 1, 13, none⟩ (.int .i64 (q 6))).setCell ⟨b2 + 1, 14, none⟩ (.int .i64 (q 7))) = w8 at r3 r2 rR rF ⊢
    clear k3 k2 hR hF q3 q2 d0 f0 d1 f1 d2 f2 d3 f3 d4 f4 d5 f5 d6 f6 d7 f7 hd7 H7 hR7 hF7
    have c0 : w8.cell? ⟨b2 + 1, 0, none⟩ = some (.int .i64 o) := cell_blk r3 0
    have c1 : w8.cell? ⟨b2 + 1, 1, none⟩ = some (.int .i64 num) := cell_blk r3 1
    have hcell : w8.drew.cell? ⟨b2 + 1, 7 + (o.toNat - 1), none⟩ = some (.int .i64 (q (o.toNat - 1))) := by
      rw [World.cell?_drew, cell_blk r3]
      exact opArr_clock o num c 0 tc tk r q (o.toNat - 1) (by omega)
    have HOf := hide (of_any (b2 + 1) 7 o (by omega) (by omega) (q (o.toNat - 1)) w8.drew hcell)
    have rRd : RdAt rb n L7 b7 w8.drew := rR
    have HM := hide (fun b => mustP rb n L7 b7 b w8.drew rRd)
    have hwn : IntKind.i64.wrap (num - 1) = num - 1 := by rw [IntKind.wrap_i64]; omega
    obtain ⟨qo, hqo⟩ : ∃ y, q (o.toNat - 1) = y := ⟨_, rfl⟩
    rw [hqo] at HOf
    have hbe : (qo == num - 1) = decide (q (o.toNat - 1) = num - 1) := by rw [hqo]; by_cases z : qo = num - 1 <;> simp [z]
    generalize hbb : decide (q (o.toNat - 1) = num - 1) = bb at hbe
    have HBB := hide hbb
    clear hbb hqo hcell
    go_region_held3 (fun w' => w'.cell? ⟨b2 + 1, 0, none⟩ = some (.int .i64 o) ∧ w'.cell? ⟨b2 + 1, 1, none⟩ = some (.int .i64 num))
      (first | go_keep | exact ⟨ck _ _ c0, ck _ _ c1⟩)
      (first | (go_at_call 130; refine HOf.out.mono ?_; rintro e w' ⟨rfl, hw⟩; rw [hw]; clear hw w') | (go_at_call 166; refine (HM.out bb).mono ?_; rintro e w9 ⟨rfl, hR9, hF9⟩; have ck : ∀ (a : Nat) (v : Value), w8.cell? ⟨b2 + 1, a, none⟩ = some v → w9.cell? ⟨b2 + 1, a, none⟩ = some v := fun a v hv => (World.cell?_of_block (hF9.block _ (by have := lt_of_heap r3; exact this) (by simpa using n2))).trans hv))
    all_goals
      have k3 := hF9.blk r3 (by simpa using n2)
      have k2 := hF9.blk r2 (by simpa using n1)
      have hF := (rF.drew).trans hF9
      have e0 : w9.cell? ⟨b2 + 1, 0, none⟩ = some (.int .i64 o) := cell_blk k3 0
      have d0 : w9.cell? ⟨b2, 0, none⟩ = some (.int .i64 0) := cell_blk k2 0
      have f0 : w9.frozen? ⟨b2, 0, none⟩ = false := frozen_blk k2 0
      have e1 : w9.cell? ⟨b2 + 1, 1, none⟩ = some (.int .i64 num) := cell_blk k3 1
      have d1 : w9.cell? ⟨b2, 1, none⟩ = some (.int .i64 0) := cell_blk k2 1
      have f1 : w9.frozen? ⟨b2, 1, none⟩ = false := frozen_blk k2 1
      have e2 : w9.cell? ⟨b2 + 1, 2, none⟩ = some (.int .i64 c) := cell_blk k3 2
      have d2 : w9.cell? ⟨b2, 2, none⟩ = some (.int .i64 0) := cell_blk k2 2
      have f2 : w9.frozen? ⟨b2, 2, none⟩ = false := frozen_blk k2 2
      have e3 : w9.cell? ⟨b2 + 1, 3, none⟩ = some (.int .i64 0) := cell_blk k3 3
      have d3 : w9.cell? ⟨b2, 3, none⟩ = some (.int .i64 0) := cell_blk k2 3
      have f3 : w9.frozen? ⟨b2, 3, none⟩ = false := frozen_blk k2 3
      have e4 : w9.cell? ⟨b2 + 1, 4, none⟩ = some (.int .i64 tc) := cell_blk k3 4
      have d4 : w9.cell? ⟨b2, 4, none⟩ = some (.int .i64 0) := cell_blk k2 4
      have f4 : w9.frozen? ⟨b2, 4, none⟩ = false := frozen_blk k2 4
      have e5 : w9.cell? ⟨b2 + 1, 5, none⟩ = some (.int .i64 tk) := cell_blk k3 5
      have d5 : w9.cell? ⟨b2, 5, none⟩ = some (.int .i64 0) := cell_blk k2 5
      have f5 : w9.frozen? ⟨b2, 5, none⟩ = false := frozen_blk k2 5
      have e6 : w9.cell? ⟨b2 + 1, 6, none⟩ = some (.int .i32 r) := cell_blk k3 6
      have d6 : w9.cell? ⟨b2, 6, none⟩ = some (.int .i32 0) := cell_blk k2 6
      have f6 : w9.frozen? ⟨b2, 6, none⟩ = false := frozen_blk k2 6
      have e7 : w9.cell? ⟨b2 + 1, 7, none⟩ = some (.int .i64 (q 0)) := cell_blk k3 7
      have d7 : w9.cell? ⟨b2, 7, none⟩ = some (.int .i64 0) := cell_blk k2 7
      have f7 : w9.frozen? ⟨b2, 7, none⟩ = false := frozen_blk k2 7
      have e8 : w9.cell? ⟨b2 + 1, 8, none⟩ = some (.int .i64 (q 1)) := cell_blk k3 8
      have d8 : w9.cell? ⟨b2, 8, none⟩ = some (.int .i64 0) := cell_blk k2 8
      have f8 : w9.frozen? ⟨b2, 8, none⟩ = false := frozen_blk k2 8
      have e9 : w9.cell? ⟨b2 + 1, 9, none⟩ = some (.int .i64 (q 2)) := cell_blk k3 9
      have d9 : w9.cell? ⟨b2, 9, none⟩ = some (.int .i64 0) := cell_blk k2 9
      have f9 : w9.frozen? ⟨b2, 9, none⟩ = false := frozen_blk k2 9
      have e10 : w9.cell? ⟨b2 + 1, 10, none⟩ = some (.int .i64 (q 3)) := cell_blk k3 10
      have d10 : w9.cell? ⟨b2, 10, none⟩ = some (.int .i64 0) := cell_blk k2 10
      have f10 : w9.frozen? ⟨b2, 10, none⟩ = false := frozen_blk k2 10
      have e11 : w9.cell? ⟨b2 + 1, 11, none⟩ = some (.int .i64 (q 4)) := cell_blk k3 11
      have d11 : w9.cell? ⟨b2, 11, none⟩ = some (.int .i64 0) := cell_blk k2 11
      have f11 : w9.frozen? ⟨b2, 11, none⟩ = false := frozen_blk k2 11
      have e12 : w9.cell? ⟨b2 + 1, 12, none⟩ = some (.int .i64 (q 5)) := cell_blk k3 12
      have d12 : w9.cell? ⟨b2, 12, none⟩ = some (.int .i64 0) := cell_blk k2 12
      have f12 : w9.frozen? ⟨b2, 12, none⟩ = false := frozen_blk k2 12
      have e13 : w9.cell? ⟨b2 + 1, 13, none⟩ = some (.int .i64 (q 6)) := cell_blk k3 13
      have d13 : w9.cell? ⟨b2, 13, none⟩ = some (.int .i64 0) := cell_blk k2 13
      have f13 : w9.frozen? ⟨b2, 13, none⟩ = false := frozen_blk k2 13
      have e14 : w9.cell? ⟨b2 + 1, 14, none⟩ = some (.int .i64 (q 7)) := cell_blk k3 14
      have d14 : w9.cell? ⟨b2, 14, none⟩ = some (.int .i64 0) := cell_blk k2 14
      have f14 : w9.frozen? ⟨b2, 14, none⟩ = false := frozen_blk k2 14
      go_wp2_with fail
      have hF8 : Fr [rb] w (((((((((((((((w9.setCell ⟨b2, 0, none⟩ (.int .i64 o)).setCell ⟨b2, 1, none⟩ (.int .i64 num)).setCell ⟨b2, 2, none⟩ (.int .i64 c)).setCell ⟨b2, 3, none⟩ (.int .i64 0)).setCell ⟨b2, 4, none⟩ (.int .i64 tc)).setCell ⟨b2, 5, none⟩ (.int .i64 tk)).setCell ⟨b2, 6, none⟩ (.int .i32 r)).setCell ⟨b2, 7, none⟩ (.int .i64 (q 0))).setCell ⟨b2, 8, none⟩ (.int .i64 (q 1))).setCell ⟨b2, 9, none⟩ (.int .i64 (q 2))).setCell ⟨b2, 10, none⟩ (.int .i64 (q 3))).setCell ⟨b2, 11, none⟩ (.int .i64 (q 4))).setCell ⟨b2, 12, none⟩ (.int .i64 (q 5))).setCell ⟨b2, 13, none⟩ (.int .i64 (q 6))).setCell ⟨b2, 14, none⟩ (.int .i64 (q 7))) := by
        iterate 15 refine Fr.setCell ?_ (.inr (by simp; omega)) _
        exact hF
      have hR8 : RdAt rb n L7 (b7 || !bb) (((((((((((((((w9.setCell ⟨b2, 0, none⟩ (.int .i64 o)).setCell ⟨b2, 1, none⟩ (.int .i64 num)).setCell ⟨b2, 2, none⟩ (.int .i64 c)).setCell ⟨b2, 3, none⟩ (.int .i64 0)).setCell ⟨b2, 4, none⟩ (.int .i64 tc)).setCell ⟨b2, 5, none⟩ (.int .i64 tk)).setCell ⟨b2, 6, none⟩ (.int .i32 r)).setCell ⟨b2, 7, none⟩ (.int .i64 (q 0))).setCell ⟨b2, 8, none⟩ (.int .i64 (q 1))).setCell ⟨b2, 9, none⟩ (.int .i64 (q 2))).setCell ⟨b2, 10, none⟩ (.int .i64 (q 3))).setCell ⟨b2, 11, none⟩ (.int .i64 (q 4))).setCell ⟨b2, 12, none⟩ (.int .i64 (q 5))).setCell ⟨b2, 13, none⟩ (.int .i64 (q 6))).setCell ⟨b2, 14, none⟩ (.int .i64 (q 7))) := by
        have hq := hR9
        unfold RdAt at hq ⊢
        iterate 15 rw [Below.heap_setCell _ _ _ _ (Ne.symm n1)]
        exact hq
      have hk8 : (((((((((((((((w9.setCell ⟨b2, 0, none⟩ (.int .i64 o)).setCell ⟨b2, 1, none⟩ (.int .i64 num)).setCell ⟨b2, 2, none⟩ (.int .i64 c)).setCell ⟨b2, 3, none⟩ (.int .i64 0)).setCell ⟨b2, 4, none⟩ (.int .i64 tc)).setCell ⟨b2, 5, none⟩ (.int .i64 tk)).setCell ⟨b2, 6, none⟩ (.int .i32 r)).setCell ⟨b2, 7, none⟩ (.int .i64 (q 0))).setCell ⟨b2, 8, none⟩ (.int .i64 (q 1))).setCell ⟨b2, 9, none⟩ (.int .i64 (q 2))).setCell ⟨b2, 10, none⟩ (.int .i64 (q 3))).setCell ⟨b2, 11, none⟩ (.int .i64 (q 4))).setCell ⟨b2, 12, none⟩ (.int .i64 (q 5))).setCell ⟨b2, 13, none⟩ (.int .i64 (q 6))).setCell ⟨b2, 14, none⟩ (.int .i64 (q 7))).heap[b2]? = some (.cells #[.int .i64 o, .int .i64 num, .int .i64 c, .int .i64 0, .int .i64 tc, .int .i64 tk, .int .i32 r, .int .i64 (q 0), .int .i64 (q 1), .int .i64 (q 2), .int .i64 (q 3), .int .i64 (q 4), .int .i64 (q 5), .int .i64 (q 6), .int .i64 (q 7)] 154) := set15_blk k2
      generalize (((((((((((((((w9.setCell ⟨b2, 0, none⟩ (.int .i64 o)).setCell ⟨b2, 1, none⟩ (.int .i64 num)).setCell ⟨b2, 2, none⟩ (.int .i64 c)).setCell ⟨b2, 3, none⟩ (.int .i64 0)).setCell ⟨b2, 4, none⟩ (.int .i64 tc)).setCell ⟨b2, 5, none⟩ (.int .i64 tk)).setCell ⟨b2, 6, none⟩ (.int .i32 r)).setCell ⟨b2, 7, none⟩ (.int .i64 (q 0))).setCell ⟨b2, 8, none⟩ (.int .i64 (q 1))).setCell ⟨b2, 9, none⟩ (.int .i64 (q 2))).setCell ⟨b2, 10, none⟩ (.int .i64 (q 3))).setCell ⟨b2, 11, none⟩ (.int .i64 (q 4))).setCell ⟨b2, 12, none⟩ (.int .i64 (q 5))).setCell ⟨b2, 13, none⟩ (.int .i64 (q 6))).setCell ⟨b2, 14, none⟩ (.int .i64 (q 7))) = wE at hF8 hR8 hk8 ⊢
      clear d0 e0 f0 d1 e1 f1 d2 e2 f2 d3 e3 f3 d4 e4 f4 d5 e5 f5 d6 e6 f6 d7 e7 f7 d8 e8 f8 d9 e9 f9 d10 e10 f10 d11 e11 f11 d12 e12 f12 d13 e13 f13 d14 e14 f14
      have d0 : wE.cell? ⟨b2, 0, none⟩ = some (.int .i64 o) := cell_blk hk8 0
      have d1 : wE.cell? ⟨b2, 1, none⟩ = some (.int .i64 num) := cell_blk hk8 1
      have d2 : wE.cell? ⟨b2, 2, none⟩ = some (.int .i64 c) := cell_blk hk8 2
      have d3 : wE.cell? ⟨b2, 3, none⟩ = some (.int .i64 0) := cell_blk hk8 3
      have d4 : wE.cell? ⟨b2, 4, none⟩ = some (.int .i64 tc) := cell_blk hk8 4
      have d5 : wE.cell? ⟨b2, 5, none⟩ = some (.int .i64 tk) := cell_blk hk8 5
      have d6 : wE.cell? ⟨b2, 6, none⟩ = some (.int .i32 r) := cell_blk hk8 6
      have d7 : wE.cell? ⟨b2, 7, none⟩ = some (.int .i64 (q 0)) := cell_blk hk8 7
      have d8 : wE.cell? ⟨b2, 8, none⟩ = some (.int .i64 (q 1)) := cell_blk hk8 8
      have d9 : wE.cell? ⟨b2, 9, none⟩ = some (.int .i64 (q 2)) := cell_blk hk8 9
      have d10 : wE.cell? ⟨b2, 10, none⟩ = some (.int .i64 (q 3)) := cell_blk hk8 10
      have d11 : wE.cell? ⟨b2, 11, none⟩ = some (.int .i64 (q 4)) := cell_blk hk8 11
      have d12 : wE.cell? ⟨b2, 12, none⟩ = some (.int .i64 (q 5)) := cell_blk hk8 12
      have d13 : wE.cell? ⟨b2, 13, none⟩ = some (.int .i64 (q 6)) := cell_blk hk8 13
      have d14 : wE.cell? ⟨b2, 14, none⟩ = some (.int .i64 (q 7)) := cell_blk hk8 14
      have hdec := op_dec (t := (tc, tk)) (r := r) D1.out D2.out D3.out D4.out D5.out D6.out D7.out
      rw [HBB.out] at hdec
      exact bodyPost_ret (v := .agg #[.int .i64 o, .int .i64 num, .int .i64 c, .int .i64 0, .int .i64 tc, .int .i64 tk, .int .i32 r, .int .i64 (q 0), .int .i64 (q 1), .int .i64 (q 2), .int .i64 (q 3), .int .i64 (q 4), .int .i64 (q 5), .int .i64 (q 6), .int .i64 (q 7)]) (by simp [results, Tryz.results153, go_sem, d0, d1, d2, d3, d4, d5, d6, d7, d8, d9, d10, d11, d12, d13, d14]) rfl ⟨⟨o, num, c, 0, tc, tk, r, q⟩, L7, b7 || !bb, rfl, hR8, hF8, hdec, by omega⟩
  · have D6 : Hid (Dec (rEnc 1) (rOk 1) L5 b5 0 L5 b5) := no_rune_dec L5 b5
    have l6 : L5.length ≤ L5.length := Nat.le_refl _
    clear l6
    go_upto_region 9 with fail
    clear c3
    have H7 := hide (clockP rb n h8 L5 b5 (by omega) w6 hR)
    go_wp2_with fail
    refine H7.out.mono ?_
    rintro e u7 ⟨q, L7, b7, rfl, hR7, hF7, hd7, hq7, l7⟩
    have q3 := hF7.blk k3 (by simpa using n2)
    have q2 := hF7.blk k2 (by simpa using n1)
    have d0 : u7.cell? ⟨b2 + 1, 7, none⟩ = some (.int .i64 0) := cell_blk q3 7
    have f0 : u7.frozen? ⟨b2 + 1, 7, none⟩ = false := frozen_blk q3 7
    have d1 : u7.cell? ⟨b2 + 1, 8, none⟩ = some (.int .i64 0) := cell_blk q3 8
    have f1 : u7.frozen? ⟨b2 + 1, 8, none⟩ = false := frozen_blk q3 8
    have d2 : u7.cell? ⟨b2 + 1, 9, none⟩ = some (.int .i64 0) := cell_blk q3 9
    have f2 : u7.frozen? ⟨b2 + 1, 9, none⟩ = false := frozen_blk q3 9
    have d3 : u7.cell? ⟨b2 + 1, 10, none⟩ = some (.int .i64 0) := cell_blk q3 10
    have f3 : u7.frozen? ⟨b2 + 1, 10, none⟩ = false := frozen_blk q3 10
    have d4 : u7.cell? ⟨b2 + 1, 11, none⟩ = some (.int .i64 0) := cell_blk q3 11
    have f4 : u7.frozen? ⟨b2 + 1, 11, none⟩ = false := frozen_blk q3 11
    have d5 : u7.cell? ⟨b2 + 1, 12, none⟩ = some (.int .i64 0) := cell_blk q3 12
    have f5 : u7.frozen? ⟨b2 + 1, 12, none⟩ = false := frozen_blk q3 12
    have d6 : u7.cell? ⟨b2 + 1, 13, none⟩ = some (.int .i64 0) := cell_blk q3 13
    have f6 : u7.frozen? ⟨b2 + 1, 13, none⟩ = false := frozen_blk q3 13
    have d7 : u7.cell? ⟨b2 + 1, 14, none⟩ = some (.int .i64 0) := cell_blk q3 14
    have f7 : u7.frozen? ⟨b2 + 1, 14, none⟩ = false := frozen_blk q3 14
    unfold ckArr
    go_upto_region 10 with fail

    have r3 : ((((((((u7.setCell ⟨b2 + 1, 7, none⟩ (.int .i64 (q 0))).setCell ⟨b2 + 1, 8, none⟩ (.int .i64 (q 1))).setCell ⟨b2 + 1, 9, none⟩ (.int .i64 (q 2))).setCell ⟨b2 + 1, 10, none⟩ (.int .i64 (q 3))).setCell ⟨b2 + 1, 11, none⟩ (.int .i64 (q 4))).setCell ⟨b2 + 1, 12, none⟩ (.int .i64 (q 5))).setCell ⟨b2 + 1, 13, none⟩ (.int .i64 (q 6))).setCell ⟨b2 + 1, 14, none⟩ (.int .i64 (q 7))).heap[b2 + 1]? = some (.cells #[.int .i64 o, .int .i64 num, .int .i64 c, .int .i64 1, .int .i64 tc, .int .i64 tk, .int .i32 0, .int .i64 (q 0), .int .i64 (q 1), .int .i64 (q 2), .int .i64 (q 3), .int .i64 (q 4), .int .i64 (q 5), .int .i64 (q 6), .int .i64 (q 7)] 154) := by
      refine (set_blk (i := 14) (v := .int .i64 (q 7)) (set_blk (i := 13) (v := .int .i64 (q 6)) (set_blk (i := 12) (v := .int .i64 (q 5)) (set_blk (i := 11) (v := .int .i64 (q 4)) (set_blk (i := 10) (v := .int .i64 (q 3)) (set_blk (i := 9) (v := .int .i64 (q 2)) (set_blk (i := 8) (v := .int .i64 (q 1)) (set_blk (i := 7) (v := .int .i64 (q 0)) (q3))))))))).trans ?_
      simp
    have r2 : ((((((((u7.setCell ⟨b2 + 1, 7, none⟩ (.int .i64 (q 0))).setCell ⟨b2 + 1, 8, none⟩ (.int .i64 (q 1))).setCell ⟨b2 + 1, 9, none⟩ (.int .i64 (q 2))).setCell ⟨b2 + 1, 10, none⟩ (.int .i64 (q 3))).setCell ⟨b2 + 1, 11, none⟩ (.int .i64 (q 4))).setCell ⟨b2 + 1, 12, none⟩ (.int .i64 (q 5))).setCell ⟨b2 + 1, 13, none⟩ (.int .i64 (q 6))).setCell ⟨b2 + 1, 14, none⟩ (.int .i64 (q 7))).heap[b2]? = some (.cells #[.int .i64 0, .int .i64 0, .int .i64 0, .int .i64 0, .int .i64 0, .int .i64 0, .int .i32 0, .int .i64 0, .int .i64 0, .int .i64 0, .int .i64 0, .int .i64 0, .int .i64 0, .int .i64 0, .int .i64 0] 154) := by
      iterate 8 rw [Below.heap_setCell _ _ _ _ (by simp)]
      exact q2
    have rR : RdAt rb n L7 b7 ((((((((u7.setCell ⟨b2 + 1, 7, none⟩ (.int .i64 (q 0))).setCell ⟨b2 + 1, 8, none⟩ (.int .i64 (q 1))).setCell ⟨b2 + 1, 9, none⟩ (.int .i64 (q 2))).setCell ⟨b2 + 1, 10, none⟩ (.int .i64 (q 3))).setCell ⟨b2 + 1, 11, none⟩ (.int .i64 (q 4))).setCell ⟨b2 + 1, 12, none⟩ (.int .i64 (q 5))).setCell ⟨b2 + 1, 13, none⟩ (.int .i64 (q 6))).setCell ⟨b2 + 1, 14, none⟩ (.int .i64 (q 7))) := by
      have hq := hR7
      unfold RdAt at hq ⊢
      iterate 8 rw [Below.heap_setCell _ _ _ _ (Ne.symm n2)]
      exact hq
    have rF : Fr [rb] w ((((((((u7.setCell ⟨b2 + 1, 7, none⟩ (.int .i64 (q 0))).setCell ⟨b2 + 1, 8, none⟩ (.int .i64 (q 1))).setCell ⟨b2 + 1, 9, none⟩ (.int .i64 (q 2))).setCell ⟨b2 + 1, 10, none⟩ (.int .i64 (q 3))).setCell ⟨b2 + 1, 11, none⟩ (.int .i64 (q 4))).setCell ⟨b2 + 1, 12, none⟩ (.int .i64 (q 5))).setCell ⟨b2 + 1, 13, none⟩ (.int .i64 (q 6))).setCell ⟨b2 + 1, 14, none⟩ (.int .i64 (q 7))) := by
      iterate 8 refine Fr.setCell ?_ (.inr (by simp; omega)) _
      exact hF.trans hF7
    have D7 := hide hd7
    generalize ((((((((u7.setCell ⟨b2 + 1, 7, none⟩ (.int .i64 (q 0))).setCell ⟨b2 + 1, 8, none⟩ (.int .i64 (q 1))).setCell ⟨b2 + 1, 9, none⟩ (.int .i64 (q 2))).setCell ⟨b2 + 1, 10, none⟩ (.int .i64 (q 3))).setCell ⟨b2 + 1, 11, none⟩ (.int .i64 (q 4))).setCell ⟨b2 + 1, 12, none⟩ (.int .i64 (q 5))).setCell ⟨b2 + 1, 13, none⟩ (.int .i64 (q 6))).setCell ⟨b2 + 1, 14, none⟩ (.int .i64 (q 7))) = w8 at r3 r2 rR rF ⊢
    clear k3 k2 hR hF q3 q2 d0 f0 d1 f1 d2 f2 d3 f3 d4 f4 d5 f5 d6 f6 d7 f7 hd7 H7 hR7 hF7
    have c0 : w8.cell? ⟨b2 + 1, 0, none⟩ = some (.int .i64 o) := cell_blk r3 0
    have c1 : w8.cell? ⟨b2 + 1, 1, none⟩ = some (.int .i64 num) := cell_blk r3 1
    have hcell : w8.drew.cell? ⟨b2 + 1, 7 + (o.toNat - 1), none⟩ = some (.int .i64 (q (o.toNat - 1))) := by
      rw [World.cell?_drew, cell_blk r3]
      exact opArr_clock o num c 1 tc tk 0 q (o.toNat - 1) (by omega)
    have HOf := hide (of_any (b2 + 1) 7 o (by omega) (by omega) (q (o.toNat - 1)) w8.drew hcell)
    have rRd : RdAt rb n L7 b7 w8.drew := rR
    have HM := hide (fun b => mustP rb n L7 b7 b w8.drew rRd)
    have hwn : IntKind.i64.wrap (num - 1) = num - 1 := by rw [IntKind.wrap_i64]; omega
    obtain ⟨qo, hqo⟩ : ∃ y, q (o.toNat - 1) = y := ⟨_, rfl⟩
    rw [hqo] at HOf
    have hbe : (qo == num - 1) = decide (q (o.toNat - 1) = num - 1) := by rw [hqo]; by_cases z : qo = num - 1 <;> simp [z]
    generalize hbb : decide (q (o.toNat - 1) = num - 1) = bb at hbe
    have HBB := hide hbb
    clear hbb hqo hcell
    go_region_held3 (fun w' => w'.cell? ⟨b2 + 1, 0, none⟩ = some (.int .i64 o) ∧ w'.cell? ⟨b2 + 1, 1, none⟩ = some (.int .i64 num))
      (first | go_keep | exact ⟨ck _ _ c0, ck _ _ c1⟩)
      (first | (go_at_call 130; refine HOf.out.mono ?_; rintro e w' ⟨rfl, hw⟩; rw [hw]; clear hw w') | (go_at_call 166; refine (HM.out bb).mono ?_; rintro e w9 ⟨rfl, hR9, hF9⟩; have ck : ∀ (a : Nat) (v : Value), w8.cell? ⟨b2 + 1, a, none⟩ = some v → w9.cell? ⟨b2 + 1, a, none⟩ = some v := fun a v hv => (World.cell?_of_block (hF9.block _ (by have := lt_of_heap r3; exact this) (by simpa using n2))).trans hv))
    all_goals
      have k3 := hF9.blk r3 (by simpa using n2)
      have k2 := hF9.blk r2 (by simpa using n1)
      have hF := (rF.drew).trans hF9
      have e0 : w9.cell? ⟨b2 + 1, 0, none⟩ = some (.int .i64 o) := cell_blk k3 0
      have d0 : w9.cell? ⟨b2, 0, none⟩ = some (.int .i64 0) := cell_blk k2 0
      have f0 : w9.frozen? ⟨b2, 0, none⟩ = false := frozen_blk k2 0
      have e1 : w9.cell? ⟨b2 + 1, 1, none⟩ = some (.int .i64 num) := cell_blk k3 1
      have d1 : w9.cell? ⟨b2, 1, none⟩ = some (.int .i64 0) := cell_blk k2 1
      have f1 : w9.frozen? ⟨b2, 1, none⟩ = false := frozen_blk k2 1
      have e2 : w9.cell? ⟨b2 + 1, 2, none⟩ = some (.int .i64 c) := cell_blk k3 2
      have d2 : w9.cell? ⟨b2, 2, none⟩ = some (.int .i64 0) := cell_blk k2 2
      have f2 : w9.frozen? ⟨b2, 2, none⟩ = false := frozen_blk k2 2
      have e3 : w9.cell? ⟨b2 + 1, 3, none⟩ = some (.int .i64 1) := cell_blk k3 3
      have d3 : w9.cell? ⟨b2, 3, none⟩ = some (.int .i64 0) := cell_blk k2 3
      have f3 : w9.frozen? ⟨b2, 3, none⟩ = false := frozen_blk k2 3
      have e4 : w9.cell? ⟨b2 + 1, 4, none⟩ = some (.int .i64 tc) := cell_blk k3 4
      have d4 : w9.cell? ⟨b2, 4, none⟩ = some (.int .i64 0) := cell_blk k2 4
      have f4 : w9.frozen? ⟨b2, 4, none⟩ = false := frozen_blk k2 4
      have e5 : w9.cell? ⟨b2 + 1, 5, none⟩ = some (.int .i64 tk) := cell_blk k3 5
      have d5 : w9.cell? ⟨b2, 5, none⟩ = some (.int .i64 0) := cell_blk k2 5
      have f5 : w9.frozen? ⟨b2, 5, none⟩ = false := frozen_blk k2 5
      have e6 : w9.cell? ⟨b2 + 1, 6, none⟩ = some (.int .i32 0) := cell_blk k3 6
      have d6 : w9.cell? ⟨b2, 6, none⟩ = some (.int .i32 0) := cell_blk k2 6
      have f6 : w9.frozen? ⟨b2, 6, none⟩ = false := frozen_blk k2 6
      have e7 : w9.cell? ⟨b2 + 1, 7, none⟩ = some (.int .i64 (q 0)) := cell_blk k3 7
      have d7 : w9.cell? ⟨b2, 7, none⟩ = some (.int .i64 0) := cell_blk k2 7
      have f7 : w9.frozen? ⟨b2, 7, none⟩ = false := frozen_blk k2 7
      have e8 : w9.cell? ⟨b2 + 1, 8, none⟩ = some (.int .i64 (q 1)) := cell_blk k3 8
      have d8 : w9.cell? ⟨b2, 8, none⟩ = some (.int .i64 0) := cell_blk k2 8
      have f8 : w9.frozen? ⟨b2, 8, none⟩ = false := frozen_blk k2 8
      have e9 : w9.cell? ⟨b2 + 1, 9, none⟩ = some (.int .i64 (q 2)) := cell_blk k3 9
      have d9 : w9.cell? ⟨b2, 9, none⟩ = some (.int .i64 0) := cell_blk k2 9
      have f9 : w9.frozen? ⟨b2, 9, none⟩ = false := frozen_blk k2 9
      have e10 : w9.cell? ⟨b2 + 1, 10, none⟩ = some (.int .i64 (q 3)) := cell_blk k3 10
      have d10 : w9.cell? ⟨b2, 10, none⟩ = some (.int .i64 0) := cell_blk k2 10
      have f10 : w9.frozen? ⟨b2, 10, none⟩ = false := frozen_blk k2 10
      have e11 : w9.cell? ⟨b2 + 1, 11, none⟩ = some (.int .i64 (q 4)) := cell_blk k3 11
      have d11 : w9.cell? ⟨b2, 11, none⟩ = some (.int .i64 0) := cell_blk k2 11
      have f11 : w9.frozen? ⟨b2, 11, none⟩ = false := frozen_blk k2 11
      have e12 : w9.cell? ⟨b2 + 1, 12, none⟩ = some (.int .i64 (q 5)) := cell_blk k3 12
      have d12 : w9.cell? ⟨b2, 12, none⟩ = some (.int .i64 0) := cell_blk k2 12
      have f12 : w9.frozen? ⟨b2, 12, none⟩ = false := frozen_blk k2 12
      have e13 : w9.cell? ⟨b2 + 1, 13, none⟩ = some (.int .i64 (q 6)) := cell_blk k3 13
      have d13 : w9.cell? ⟨b2, 13, none⟩ = some (.int .i64 0) := cell_blk k2 13
      have f13 : w9.frozen? ⟨b2, 13, none⟩ = false := frozen_blk k2 13
      have e14 : w9.cell? ⟨b2 + 1, 14, none⟩ = some (.int .i64 (q 7)) := cell_blk k3 14
      have d14 : w9.cell? ⟨b2, 14, none⟩ = some (.int .i64 0) := cell_blk k2 14
      have f14 : w9.frozen? ⟨b2, 14, none⟩ = false := frozen_blk k2 14
      go_wp2_with fail
      have hF8 : Fr [rb] w (((((((((((((((w9.setCell ⟨b2, 0, none⟩ (.int .i64 o)).setCell ⟨b2, 1, none⟩ (.int .i64 num)).setCell ⟨b2, 2, none⟩ (.int .i64 c)).setCell ⟨b2, 3, none⟩ (.int .i64 1)).setCell ⟨b2, 4, none⟩ (.int .i64 tc)).setCell ⟨b2, 5, none⟩ (.int .i64 tk)).setCell ⟨b2, 6, none⟩ (.int .i32 0)).setCell ⟨b2, 7, none⟩ (.int .i64 (q 0))).setCell ⟨b2, 8, none⟩ (.int .i64 (q 1))).setCell ⟨b2, 9, none⟩ (.int .i64 (q 2))).setCell ⟨b2, 10, none⟩ (.int .i64 (q 3))).setCell ⟨b2, 11, none⟩ (.int .i64 (q 4))).setCell ⟨b2, 12, none⟩ (.int .i64 (q 5))).setCell ⟨b2, 13, none⟩ (.int .i64 (q 6))).setCell ⟨b2, 14, none⟩ (.int .i64 (q 7))) := by
        iterate 15 refine Fr.setCell ?_ (.inr (by simp; omega)) _
        exact hF
      have hR8 : RdAt rb n L7 (b7 || !bb) (((((((((((((((w9.setCell ⟨b2, 0, none⟩ (.int .i64 o)).setCell ⟨b2, 1, none⟩ (.int .i64 num)).setCell ⟨b2, 2, none⟩ (.int .i64 c)).setCell ⟨b2, 3, none⟩ (.int .i64 1)).setCell ⟨b2, 4, none⟩ (.int .i64 tc)).setCell ⟨b2, 5, none⟩ (.int .i64 tk)).setCell ⟨b2, 6, none⟩ (.int .i32 0)).setCell ⟨b2, 7, none⟩ (.int .i64 (q 0))).setCell ⟨b2, 8, none⟩ (.int .i64 (q 1))).setCell ⟨b2, 9, none⟩ (.int .i64 (q 2))).setCell ⟨b2, 10, none⟩ (.int .i64 (q 3))).setCell ⟨b2, 11, none⟩ (.int .i64 (q 4))).setCell ⟨b2, 12, none⟩ (.int .i64 (q 5))).setCell ⟨b2, 13, none⟩ (.int .i64 (q 6))).setCell ⟨b2, 14, none⟩ (.int .i64 (q 7))) := by
        have hq := hR9
        unfold RdAt at hq ⊢
        iterate 15 rw [Below.heap_setCell _ _ _ _ (Ne.symm n1)]
        exact hq
      have hk8 : (((((((((((((((w9.setCell ⟨b2, 0, none⟩ (.int .i64 o)).setCell ⟨b2, 1, none⟩ (.int .i64 num)).setCell ⟨b2, 2, none⟩ (.int .i64 c)).setCell ⟨b2, 3, none⟩ (.int .i64 1)).setCell ⟨b2, 4, none⟩ (.int .i64 tc)).setCell ⟨b2, 5, none⟩ (.int .i64 tk)).setCell ⟨b2, 6, none⟩ (.int .i32 0)).setCell ⟨b2, 7, none⟩ (.int .i64 (q 0))).setCell ⟨b2, 8, none⟩ (.int .i64 (q 1))).setCell ⟨b2, 9, none⟩ (.int .i64 (q 2))).setCell ⟨b2, 10, none⟩ (.int .i64 (q 3))).setCell ⟨b2, 11, none⟩ (.int .i64 (q 4))).setCell ⟨b2, 12, none⟩ (.int .i64 (q 5))).setCell ⟨b2, 13, none⟩ (.int .i64 (q 6))).setCell ⟨b2, 14, none⟩ (.int .i64 (q 7))).heap[b2]? = some (.cells #[.int .i64 o, .int .i64 num, .int .i64 c, .int .i64 1, .int .i64 tc, .int .i64 tk, .int .i32 0, .int .i64 (q 0), .int .i64 (q 1), .int .i64 (q 2), .int .i64 (q 3), .int .i64 (q 4), .int .i64 (q 5), .int .i64 (q 6), .int .i64 (q 7)] 154) := set15_blk k2
      generalize (((((((((((((((w9.setCell ⟨b2, 0, none⟩ (.int .i64 o)).setCell ⟨b2, 1, none⟩ (.int .i64 num)).setCell ⟨b2, 2, none⟩ (.int .i64 c)).setCell ⟨b2, 3, none⟩ (.int .i64 1)).setCell ⟨b2, 4, none⟩ (.int .i64 tc)).setCell ⟨b2, 5, none⟩ (.int .i64 tk)).setCell ⟨b2, 6, none⟩ (.int .i32 0)).setCell ⟨b2, 7, none⟩ (.int .i64 (q 0))).setCell ⟨b2, 8, none⟩ (.int .i64 (q 1))).setCell ⟨b2, 9, none⟩ (.int .i64 (q 2))).setCell ⟨b2, 10, none⟩ (.int .i64 (q 3))).setCell ⟨b2, 11, none⟩ (.int .i64 (q 4))).setCell ⟨b2, 12, none⟩ (.int .i64 (q 5))).setCell ⟨b2, 13, none⟩ (.int .i64 (q 6))).setCell ⟨b2, 14, none⟩ (.int .i64 (q 7))) = wE at hF8 hR8 hk8 ⊢
      clear d0 e0 f0 d1 e1 f1 d2 e2 f2 d3 e3 f3 d4 e4 f4 d5 e5 f5 d6 e6 f6 d7 e7 f7 d8 e8 f8 d9 e9 f9 d10 e10 f10 d11 e11 f11 d12 e12 f12 d13 e13 f13 d14 e14 f14
      have d0 : wE.cell? ⟨b2, 0, none⟩ = some (.int .i64 o) := cell_blk hk8 0
      have d1 : wE.cell? ⟨b2, 1, none⟩ = some (.int .i64 num) := cell_blk hk8 1
      have d2 : wE.cell? ⟨b2, 2, none⟩ = some (.int .i64 c) := cell_blk hk8 2
      have d3 : wE.cell? ⟨b2, 3, none⟩ = some (.int .i64 1) := cell_blk hk8 3
      have d4 : wE.cell? ⟨b2, 4, none⟩ = some (.int .i64 tc) := cell_blk hk8 4
      have d5 : wE.cell? ⟨b2, 5, none⟩ = some (.int .i64 tk) := cell_blk hk8 5
      have d6 : wE.cell? ⟨b2, 6, none⟩ = some (.int .i32 0) := cell_blk hk8 6
      have d7 : wE.cell? ⟨b2, 7, none⟩ = some (.int .i64 (q 0)) := cell_blk hk8 7
      have d8 : wE.cell? ⟨b2, 8, none⟩ = some (.int .i64 (q 1)) := cell_blk hk8 8
      have d9 : wE.cell? ⟨b2, 9, none⟩ = some (.int .i64 (q 2)) := cell_blk hk8 9
      have d10 : wE.cell? ⟨b2, 10, none⟩ = some (.int .i64 (q 3)) := cell_blk hk8 10
      have d11 : wE.cell? ⟨b2, 11, none⟩ = some (.int .i64 (q 4)) := cell_blk hk8 11
      have d12 : wE.cell? ⟨b2, 12, none⟩ = some (.int .i64 (q 5)) := cell_blk hk8 12
      have d13 : wE.cell? ⟨b2, 13, none⟩ = some (.int .i64 (q 6)) := cell_blk hk8 13
      have d14 : wE.cell? ⟨b2, 14, none⟩ = some (.int .i64 (q 7)) := cell_blk hk8 14
      have hdec := op_dec (t := (tc, tk)) (r := 0) D1.out D2.out D3.out D4.out D5.out D6.out D7.out
      rw [HBB.out] at hdec
      exact bodyPost_ret (v := .agg #[.int .i64 o, .int .i64 num, .int .i64 c, .int .i64 1, .int .i64 tc, .int .i64 tk, .int .i32 0, .int .i64 (q 0), .int .i64 (q 1), .int .i64 (q 2), .int .i64 (q 3), .int .i64 (q 4), .int .i64 (q 5), .int .i64 (q 6), .int .i64 (q 7)]) (by simp [results, Tryz.results153, go_sem, d0, d1, d2, d3, d4, d5, d6, d7, d8, d9, d10, d11, d12, d13, d14]) rfl ⟨⟨o, num, c, 1, tc, tk, 0, q⟩, L7, b7 || !bb, rfl, hR8, hF8, hdec, by omega⟩

end Go.Proofs.YtachmkhbbbmioaaGreat
