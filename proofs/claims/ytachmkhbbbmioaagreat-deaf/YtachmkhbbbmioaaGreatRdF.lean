import Derived.Test.YtachmkhbbbmioaaGreatRdE
import Derived.Test.YtachmkhbbbmioaaGreatFrRX
namespace Go.Proofs.YtachmkhbbbmioaaGreat
open Go.RowKit Go.Shelf

/-- A digest's bytes behind its head. -/
def dEnc (n : Nat) (d : Int × (Nat → Int)) : List UInt8 := vbI d.1 ++ cEnc n d.2
def dOk (n : Nat) (d : Int × (Nat → Int)) : Prop := (1 ≤ d.1 ∧ d.1 ≤ (n : Int)) ∧ cOk n d.2
def bEnc (n : Nat) (l : List OpR) : List UInt8 := vbI l.length ++ opsEnc n l
def bOk (n : Nat) (l : List OpR) : Prop := (1 ≤ (l.length : Int) ∧ (l.length : Int) ≤ 120) ∧ ∀ y ∈ l, Ok8 n y

theorem dig_dec {n : Nat} {L L1 L2 : List UInt8} {b b1 b2 : Bool} {s : Int} {q : Nat → Int} (d1 : Dec vbI (fun v => 1 ≤ v ∧ v ≤ (n : Int)) L b s L1 b1) (d2 : Dec (cEnc n) (cOk n) L1 b1 q L2 b2) : Dec (dEnc n) (dOk n) L b (s, q) L2 b2 := by
  refine ⟨fun h => ?_, fun h u rest hu hL => ?_⟩
  · obtain ⟨e2, k2, l2⟩ := d2.1 h
    obtain ⟨e1, k1, l1⟩ := d1.1 e2
    exact ⟨e1, ⟨k1, k2⟩, by rw [l1, l2]; simp [dEnc]⟩
  · obtain ⟨u1, u2⟩ := u
    obtain ⟨e1, v1, m1⟩ := d1.2 h u1 (cEnc n u2 ++ rest) hu.1 (by rw [hL]; simp [dEnc])
    obtain ⟨e2, v2, m2⟩ := d2.2 e1 u2 rest hu.2 m1
    exact ⟨e2, by rw [v1, v2], m2⟩

theorem batch_dec {n : Nat} {L L1 L2 : List UInt8} {b b1 b2 : Bool} {cnt : Int} {l : List OpR} (d1 : Dec vbI (fun v => 1 ≤ v ∧ v ≤ 120) L b cnt L1 b1) (d2 : Dec (opsEnc n) (fun m => m.length = l.length ∧ ∀ y ∈ m, Ok8 n y) L1 b1 l L2 b2) (hle : (l.length : Int) ≤ cnt) (hend : b2 = true ∨ (l.length : Int) = cnt) : Dec (bEnc n) (bOk n) L b l L2 b2 := by
  refine ⟨fun h => ?_, fun h u rest hu hL => ?_⟩
  · have hc : (l.length : Int) = cnt := by
      rcases hend with e | e
      · rw [h] at e; cases e
      · exact e
    obtain ⟨e2, k2, l2⟩ := d2.1 h
    obtain ⟨e1, k1, l1⟩ := d1.1 e2
    exact ⟨e1, ⟨by rw [hc]; exact k1, k2.2⟩, by rw [l1, l2, ← hc]; simp [bEnc]⟩
  · obtain ⟨e1, v1, m1⟩ := d1.2 h (u.length : Int) (opsEnc n u ++ rest) hu.1 (by rw [hL]; simp [bEnc])
    have hlu : l.length ≤ u.length := by omega
    have hsp : opsEnc n u = opsEnc n (u.take l.length) ++ opsEnc n (u.drop l.length) := by
      unfold opsEnc
      rw [← List.flatMap_append, List.take_append_drop]
    obtain ⟨e2, v2, m2⟩ := d2.2 e1 (u.take l.length) (opsEnc n (u.drop l.length) ++ rest) ⟨by rw [List.length_take]; omega, fun y hy => hu.2 y (List.mem_of_mem_take hy)⟩ (by rw [m1, hsp]; simp)
    have hc : l.length = u.length := by
      rcases hend with e | e
      · rw [e2] at e; cases e
      · omega
    refine ⟨e2, ?_, ?_⟩
    · rw [hc, List.take_length] at v2
      exact v2
    · rw [m2, hc, List.drop_length]; simp [opsEnc]

set_option maxRecDepth 100000 in
set_option maxHeartbeats 2000000 in
theorem digestP (rb n : Nat) (h1 : 1 ≤ n) (h8 : n ≤ 8) (L : List UInt8) (bad : Bool) (hl : L.length ≤ 1000) (w : World) (h : RdAt rb n L bad w) :
    Calls Tryz.prog 126 #[.pointer (some ⟨rb, 0, none⟩)] w fun e w' => ∃ s q L' bad', e = .returned (.agg (frArr 0 s q (.slice none 0 0))) ∧ RdAt rb n L' bad' w' ∧ Fr [rb] w w' ∧ Dec (dEnc n) (dOk n) L bad (s, q) L' bad' ∧ L'.length ≤ L.length := by
  have hrlt : rb < w.heap.size := lt_of_heap h
  go_enter Tryz.func126, Tryz.ntmps126
  go_upto_region 1 with fail
  have g1 : w.grownBy (w.alloc (.cells #[.int .i64 0, .int .i64 0, .int .i64 0, .int .i64 0, .int .i64 0, .int .i64 0, .int .i64 0, .int .i64 0, .int .i64 0, .int .i64 0, .slice none 0 0] 143)) none := grown_alloc (grown_refl _) _
  have k1 : (w.alloc (.cells #[.int .i64 0, .int .i64 0, .int .i64 0, .int .i64 0, .int .i64 0, .int .i64 0, .int .i64 0, .int .i64 0, .int .i64 0, .int .i64 0, .slice none 0 0] 143)).heap[w.heap.size]? = some (.cells #[.int .i64 0, .int .i64 0, .int .i64 0, .int .i64 0, .int .i64 0, .int .i64 0, .int .i64 0, .int .i64 0, .int .i64 0, .int .i64 0, .slice none 0 0] 143) := by rw [heap_alloc_at]; simp
  generalize (w.alloc (.cells #[.int .i64 0, .int .i64 0, .int .i64 0, .int .i64 0, .int .i64 0, .int .i64 0, .int .i64 0, .int .i64 0, .int .i64 0, .int .i64 0, .slice none 0 0] 143)) = w1 at g1 k1 ⊢
  have hR1 : RdAt rb n L bad w1 := (g1.block _ hrlt (by simp)).trans h
  have hF1 : Fr [rb] w w1 := Fr.ofGrown g1
  obtain ⟨b2, hb2⟩ : ∃ b, w.heap.size = b := ⟨_, rfl⟩
  rw [hb2] at k1 ⊢
  have n1 : rb ≠ b2 := by omega
  have c0 : w1.cell? ⟨rb, 0, none⟩ = some (.int .i64 n) := cell_blk hR1 0
  clear h g1
  have HS := hide (smallP rb n 1 n (by omega) (by omega) L bad hl w1 hR1)
  go_wp2_with fail
  refine HS.out.mono ?_
  rintro e w2 ⟨s, L1, bad1, rfl, hN⟩
  have l1 := hN.len
  have HC := hide (clockP rb n h8 L1 bad1 (by omega) w2 hN.at')
  go_wp2_with fail
  refine HC.out.mono ?_
  rintro e w3 ⟨qq, L2, bad2, rfl, hR3, hF3, hd3, -, l2⟩
  have k3 := hF3.blk (hN.fr.blk k1 (by simpa using Ne.symm n1)) (by simpa using Ne.symm n1)
  have hF := (hF1.trans hN.fr).trans hF3
  have HD := hide (dig_dec hN.dec hd3)
  clear c0 k1 hF1 hF3 hR1 HS HC hN hd3
  unfold ckArr
  have d0 : w3.cell? ⟨b2, 0, none⟩ = some (.int .i64 0) := cell_blk k3 0
  have f0 : w3.frozen? ⟨b2, 0, none⟩ = false := frozen_blk k3 0
  have d1 : w3.cell? ⟨b2, 1, none⟩ = some (.int .i64 0) := cell_blk k3 1
  have f1 : w3.frozen? ⟨b2, 1, none⟩ = false := frozen_blk k3 1
  have d2 : w3.cell? ⟨b2, 2, none⟩ = some (.int .i64 0) := cell_blk k3 2
  have f2 : w3.frozen? ⟨b2, 2, none⟩ = false := frozen_blk k3 2
  have d3 : w3.cell? ⟨b2, 3, none⟩ = some (.int .i64 0) := cell_blk k3 3
  have f3 : w3.frozen? ⟨b2, 3, none⟩ = false := frozen_blk k3 3
  have d4 : w3.cell? ⟨b2, 4, none⟩ = some (.int .i64 0) := cell_blk k3 4
  have f4 : w3.frozen? ⟨b2, 4, none⟩ = false := frozen_blk k3 4
  have d5 : w3.cell? ⟨b2, 5, none⟩ = some (.int .i64 0) := cell_blk k3 5
  have f5 : w3.frozen? ⟨b2, 5, none⟩ = false := frozen_blk k3 5
  have d6 : w3.cell? ⟨b2, 6, none⟩ = some (.int .i64 0) := cell_blk k3 6
  have f6 : w3.frozen? ⟨b2, 6, none⟩ = false := frozen_blk k3 6
  have d7 : w3.cell? ⟨b2, 7, none⟩ = some (.int .i64 0) := cell_blk k3 7
  have f7 : w3.frozen? ⟨b2, 7, none⟩ = false := frozen_blk k3 7
  have d8 : w3.cell? ⟨b2, 8, none⟩ = some (.int .i64 0) := cell_blk k3 8
  have f8 : w3.frozen? ⟨b2, 8, none⟩ = false := frozen_blk k3 8
  have d9 : w3.cell? ⟨b2, 9, none⟩ = some (.int .i64 0) := cell_blk k3 9
  have f9 : w3.frozen? ⟨b2, 9, none⟩ = false := frozen_blk k3 9
  have d10 : w3.cell? ⟨b2, 10, none⟩ = some (.slice none 0 0) := cell_blk k3 10
  have f10 : w3.frozen? ⟨b2, 10, none⟩ = false := frozen_blk k3 10
  go_wp2_with fail
  have hF8 : Fr [rb] w (((((((((((w3.setCell ⟨b2, 0, none⟩ (.int .i64 0)).setCell ⟨b2, 1, none⟩ (.int .i64 s)).setCell ⟨b2, 2, none⟩ (.int .i64 (qq 0))).setCell ⟨b2, 3, none⟩ (.int .i64 (qq 1))).setCell ⟨b2, 4, none⟩ (.int .i64 (qq 2))).setCell ⟨b2, 5, none⟩ (.int .i64 (qq 3))).setCell ⟨b2, 6, none⟩ (.int .i64 (qq 4))).setCell ⟨b2, 7, none⟩ (.int .i64 (qq 5))).setCell ⟨b2, 8, none⟩ (.int .i64 (qq 6))).setCell ⟨b2, 9, none⟩ (.int .i64 (qq 7))).setCell ⟨b2, 10, none⟩ (.slice none 0 0)) := by
    iterate 11 refine Fr.setCell ?_ (.inr (by simp; omega)) _
    exact hF
  have hR8 : RdAt rb n L2 bad2 (((((((((((w3.setCell ⟨b2, 0, none⟩ (.int .i64 0)).setCell ⟨b2, 1, none⟩ (.int .i64 s)).setCell ⟨b2, 2, none⟩ (.int .i64 (qq 0))).setCell ⟨b2, 3, none⟩ (.int .i64 (qq 1))).setCell ⟨b2, 4, none⟩ (.int .i64 (qq 2))).setCell ⟨b2, 5, none⟩ (.int .i64 (qq 3))).setCell ⟨b2, 6, none⟩ (.int .i64 (qq 4))).setCell ⟨b2, 7, none⟩ (.int .i64 (qq 5))).setCell ⟨b2, 8, none⟩ (.int .i64 (qq 6))).setCell ⟨b2, 9, none⟩ (.int .i64 (qq 7))).setCell ⟨b2, 10, none⟩ (.slice none 0 0)) := by
    unfold RdAt at hR3 ⊢
    iterate 11 rw [Below.heap_setCell _ _ _ _ n1]
    exact hR3
  have hk8 : (((((((((((w3.setCell ⟨b2, 0, none⟩ (.int .i64 0)).setCell ⟨b2, 1, none⟩ (.int .i64 s)).setCell ⟨b2, 2, none⟩ (.int .i64 (qq 0))).setCell ⟨b2, 3, none⟩ (.int .i64 (qq 1))).setCell ⟨b2, 4, none⟩ (.int .i64 (qq 2))).setCell ⟨b2, 5, none⟩ (.int .i64 (qq 3))).setCell ⟨b2, 6, none⟩ (.int .i64 (qq 4))).setCell ⟨b2, 7, none⟩ (.int .i64 (qq 5))).setCell ⟨b2, 8, none⟩ (.int .i64 (qq 6))).setCell ⟨b2, 9, none⟩ (.int .i64 (qq 7))).setCell ⟨b2, 10, none⟩ (.slice none 0 0)).heap[b2]? = some (.cells (frArr 0 s qq (.slice none 0 0)) 143) := set11_blk k3
  generalize (((((((((((w3.setCell ⟨b2, 0, none⟩ (.int .i64 0)).setCell ⟨b2, 1, none⟩ (.int .i64 s)).setCell ⟨b2, 2, none⟩ (.int .i64 (qq 0))).setCell ⟨b2, 3, none⟩ (.int .i64 (qq 1))).setCell ⟨b2, 4, none⟩ (.int .i64 (qq 2))).setCell ⟨b2, 5, none⟩ (.int .i64 (qq 3))).setCell ⟨b2, 6, none⟩ (.int .i64 (qq 4))).setCell ⟨b2, 7, none⟩ (.int .i64 (qq 5))).setCell ⟨b2, 8, none⟩ (.int .i64 (qq 6))).setCell ⟨b2, 9, none⟩ (.int .i64 (qq 7))).setCell ⟨b2, 10, none⟩ (.slice none 0 0)) = w8 at hF8 hR8 hk8 ⊢
  clear d0 f0 d1 f1 d2 f2 d3 f3 d4 f4 d5 f5 d6 f6 d7 f7 d8 f8 d9 f9 d10 f10
  unfold frArr at hk8
  have d0 : w8.cell? ⟨b2, 0, none⟩ = some (.int .i64 0) := cell_blk hk8 0
  have d1 : w8.cell? ⟨b2, 1, none⟩ = some (.int .i64 s) := cell_blk hk8 1
  have d2 : w8.cell? ⟨b2, 2, none⟩ = some (.int .i64 (qq 0)) := cell_blk hk8 2
  have d3 : w8.cell? ⟨b2, 3, none⟩ = some (.int .i64 (qq 1)) := cell_blk hk8 3
  have d4 : w8.cell? ⟨b2, 4, none⟩ = some (.int .i64 (qq 2)) := cell_blk hk8 4
  have d5 : w8.cell? ⟨b2, 5, none⟩ = some (.int .i64 (qq 3)) := cell_blk hk8 5
  have d6 : w8.cell? ⟨b2, 6, none⟩ = some (.int .i64 (qq 4)) := cell_blk hk8 6
  have d7 : w8.cell? ⟨b2, 7, none⟩ = some (.int .i64 (qq 5)) := cell_blk hk8 7
  have d8 : w8.cell? ⟨b2, 8, none⟩ = some (.int .i64 (qq 6)) := cell_blk hk8 8
  have d9 : w8.cell? ⟨b2, 9, none⟩ = some (.int .i64 (qq 7)) := cell_blk hk8 9
  have d10 : w8.cell? ⟨b2, 10, none⟩ = some (.slice none 0 0) := cell_blk hk8 10
  exact bodyPost_ret (v := .agg (frArr 0 s qq (.slice none 0 0))) (by simp [results, Tryz.results126, go_sem, frArr, d0, d1, d2, d3, d4, d5, d6, d7, d8, d9, d10]) rfl ⟨s, qq, L2, bad2, rfl, hR8, hF8, HD.out, by omega⟩

/-- What comes of reading a batch. -/
def BatchRd (rb n : Nat) (L : List UInt8) (bad : Bool) (w : World) (e : Ending) (w' : World) : Prop :=
  ∃ l v L' bad', e = .returned (.agg (frArr 1 0 (fun _ => 0) v)) ∧ RowAt 154 15 v (opRow l) w' ∧ (∀ g, v.ownBlock = some g → w.heap.size ≤ g) ∧ RdAt rb n L' bad' w' ∧ Fr [rb] w w' ∧ Dec (bEnc n) (bOk n) L bad l L' bad' ∧ L'.length ≤ L.length ∧ l.length ≤ 120

set_option maxRecDepth 100000 in
set_option maxHeartbeats 4000000 in
theorem batchP (rb n : Nat) (h1 : 1 ≤ n) (h8 : n ≤ 8) (L : List UInt8) (bad : Bool) (hl : L.length ≤ 1000) (w : World) (h : RdAt rb n L bad w) :
    Calls Tryz.prog 127 #[.pointer (some ⟨rb, 0, none⟩)] w fun e w' => BatchRd rb n L bad w e w' := by
  have hrlt : rb < w.heap.size := lt_of_heap h
  go_enter Tryz.func127, Tryz.ntmps127
  go_upto_region 2 with fail
  have g1 : w.grownBy ((w.alloc (.cells #[.int .i64 0, .int .i64 0, .int .i64 0, .int .i64 0, .int .i64 0, .int .i64 0, .int .i64 0, .int .i64 0, .int .i64 0, .int .i64 0, .slice none 0 0] 143)).alloc (.cells #[.int .i64 1, .int .i64 0, .int .i64 0, .int .i64 0, .int .i64 0, .int .i64 0, .int .i64 0, .int .i64 0, .int .i64 0, .int .i64 0, .slice none 0 0] 143)) none := grown_alloc (grown_alloc (grown_refl _) _) _
  have k2 : ((w.alloc (.cells #[.int .i64 0, .int .i64 0, .int .i64 0, .int .i64 0, .int .i64 0, .int .i64 0, .int .i64 0, .int .i64 0, .int .i64 0, .int .i64 0, .slice none 0 0] 143)).alloc (.cells #[.int .i64 1, .int .i64 0, .int .i64 0, .int .i64 0, .int .i64 0, .int .i64 0, .int .i64 0, .int .i64 0, .int .i64 0, .int .i64 0, .slice none 0 0] 143)).heap[w.heap.size]? = some (.cells #[.int .i64 0, .int .i64 0, .int .i64 0, .int .i64 0, .int .i64 0, .int .i64 0, .int .i64 0, .int .i64 0, .int .i64 0, .int .i64 0, .slice none 0 0] 143) := by simp only [heap_alloc_at, World.size_alloc]; simp
  have k3 : ((w.alloc (.cells #[.int .i64 0, .int .i64 0, .int .i64 0, .int .i64 0, .int .i64 0, .int .i64 0, .int .i64 0, .int .i64 0, .int .i64 0, .int .i64 0, .slice none 0 0] 143)).alloc (.cells #[.int .i64 1, .int .i64 0, .int .i64 0, .int .i64 0, .int .i64 0, .int .i64 0, .int .i64 0, .int .i64 0, .int .i64 0, .int .i64 0, .slice none 0 0] 143)).heap[w.heap.size + 1]? = some (.cells #[.int .i64 1, .int .i64 0, .int .i64 0, .int .i64 0, .int .i64 0, .int .i64 0, .int .i64 0, .int .i64 0, .int .i64 0, .int .i64 0, .slice none 0 0] 143) := by simp only [heap_alloc_at, World.size_alloc]; simp
  generalize ((w.alloc (.cells #[.int .i64 0, .int .i64 0, .int .i64 0, .int .i64 0, .int .i64 0, .int .i64 0, .int .i64 0, .int .i64 0, .int .i64 0, .int .i64 0, .slice none 0 0] 143)).alloc (.cells #[.int .i64 1, .int .i64 0, .int .i64 0, .int .i64 0, .int .i64 0, .int .i64 0, .int .i64 0, .int .i64 0, .int .i64 0, .int .i64 0, .slice none 0 0] 143)) = w1 at g1 k2 k3 ⊢
  have hR1 : RdAt rb n L bad w1 := (g1.block _ hrlt (by simp)).trans h
  have hF1 : Fr [rb] w w1 := Fr.ofGrown g1
  obtain ⟨b2, hb2⟩ : ∃ b, w.heap.size = b := ⟨_, rfl⟩
  rw [hb2] at k2 k3 ⊢
  have n1 : b2 ≠ rb := by omega
  have n2 : b2 + 1 ≠ rb := by omega
  clear h g1
  have HS := hide (smallP rb n 1 120 (by omega) (by omega) L bad hl w1 hR1)
  go_wp2_with fail
  refine HS.out.mono ?_
  rintro e w2 ⟨cnt, L1, bad1, rfl, hN⟩
  have i1 := hN.inn (by omega)
  have l1 := hN.len
  have k22 := hN.fr.blk k2 (by simpa using n1)
  have k32 := hN.fr.blk k3 (by simpa using n2)
  have hF2 := hF1.trans hN.fr
  have hR2 := hN.at'
  have HD1 := hide hN.dec
  clear k2 k3 hF1 hR1 HS hN
  have hd0 : Hid (Dec (opsEnc n) (fun m => m.length = ([] : List OpR).length ∧ ∀ y ∈ m, Ok8 n y) L1 bad1 [] L1 bad1) := hide ⟨fun e => ⟨e, ⟨rfl, by simp⟩, rfl⟩, fun e u rest hu hL => ⟨e, (List.eq_nil_of_length_eq_zero hu.1).symm, by rw [List.eq_nil_of_length_eq_zero hu.1] at hL; simpa [opsEnc] using hL⟩⟩
  go_wp2_with fail
  go_loopg [] cnt.toNat (fun gk wr => ∃ (l : List OpR) (v : Value) (L' : List UInt8) (bad' : Bool), (l.length : Int) ≤ cnt ∧ gk = cnt.toNat - l.length ∧ RdAt rb n L' bad' wr ∧ wr.heap[b2 + 1]? = some (.cells #[.int .i64 1, .int .i64 0, .int .i64 0, .int .i64 0, .int .i64 0, .int .i64 0, .int .i64 0, .int .i64 0, .int .i64 0, .int .i64 0, v] 143) ∧ wr.heap[b2]? = some (.cells #[.int .i64 0, .int .i64 0, .int .i64 0, .int .i64 0, .int .i64 0, .int .i64 0, .int .i64 0, .int .i64 0, .int .i64 0, .int .i64 0, .slice none 0 0] 143) ∧ RowAt 154 15 v (opRow l) wr ∧ (∀ g, v.ownBlock = some g → w.heap.size ≤ g) ∧ Fr [rb] w wr ∧ Hid (Dec (opsEnc n) (fun m => m.length = l.length ∧ ∀ y ∈ m, Ok8 n y) L1 bad1 l L' bad') ∧ L'.length ≤ L1.length)
  case atStart => exact ⟨[], .slice none 0 0, L1, bad1, by simp; omega, by simp, hR2, k32, k22, row_nil _ _ _, by simp [Value.ownBlock], hF2, hd0, Nat.le_refl _⟩
  case round =>
    clear hR2 k32 k22 hF2 hd0
    obtain ⟨l, v, L', bad', hlc, hgk, hR, k3, k2, hv, hvn, hF, hd, hll⟩ := hrel
    obtain ⟨av, cv, rfl, -⟩ := hv.value
    rw [opRow_len] at hv hvn k3
    have x10 : wr.cell? ⟨b2 + 1, 10, none⟩ = some (.slice av l.length cv) := cell_blk k3 10
    have y10 : wr.frozen? ⟨b2 + 1, 10, none⟩ = false := frozen_blk k3 10
    have r2 : wr.cell? ⟨rb, 2, none⟩ = some (.bool bad') := cell_blk hR 2
    have nv0 : (Value.slice av l.length cv).ownBlock ≠ some b2 := hv.neBlk k2 (by decide)
    by_cases hlt : (l.length : Int) < cnt ∧ bad' = false
    · obtain ⟨hlt, rfl⟩ := hlt
      have hRd : RdAt rb n L' false wr.drew := hR
      have HO : Hid (Calls Tryz.prog 153 #[.pointer (some ⟨rb, 0, none⟩)] wr.drew fun e w' => ∃ (o num c kind tc tk r : Int) (q : Nat → Int) (L2 : List UInt8) (bad2 : Bool), e = .returned (.agg #[.int .i64 o, .int .i64 num, .int .i64 c, .int .i64 kind, .int .i64 tc, .int .i64 tk, .int .i32 r, .int .i64 (q 0), .int .i64 (q 1), .int .i64 (q 2), .int .i64 (q 3), .int .i64 (q 4), .int .i64 (q 5), .int .i64 (q 6), .int .i64 (q 7)]) ∧ RdAt rb n L2 bad2 w' ∧ Fr [rb] wr.drew w' ∧ Hid (Dec (OpR.bytes n) (Ok8 n) L' false ⟨o, num, c, kind, tc, tk, r, q⟩ L2 bad2) ∧ L2.length ≤ L'.length) :=
        hide ((operationP rb n h1 h8 L' false (by omega) wr.drew hRd).mono fun e w' ⟨⟨o, num, c, kind, tc, tk, r, q⟩, L2, bad2, he, hR, hF, hd, hl⟩ => ⟨o, num, c, kind, tc, tk, r, q, L2, bad2, he, hR, hF, hide hd, hl⟩)
      obtain ⟨i0, hi0, hz0, hz1, hz2⟩ := info_parts infoOpP
      have nv : (Value.slice av l.length cv).ownBlock ≠ some (b2 + 1) := hv.neBlk k3 (by decide)
      have nv2 : (Value.slice av l.length cv).ownBlock ≠ some rb := fun e => by have := hvn rb e; omega
      have hlb : b2 + 1 < wr.heap.size := lt_of_heap k3
      have hown0 := hv.1
      rw [opRow_len] at hown0
      go_upto_region 4 with fail
      go_region_law
        (first | (go_simp; go_at_call 153; refine HO.out.mono ?_; rintro e w9 ⟨o, num, c, kind, tc, tk, r, q, L2, bad2, rfl, hR9, hF9, hd9, hl9⟩; have ck : ∀ (a : Nat) (v : Value), wr.cell? ⟨b2 + 1, a, none⟩ = some v → w9.cell? ⟨b2 + 1, a, none⟩ = some v := fun a v hv => (World.cell?_of_block (hF9.block _ hlb (by simpa using n2))).trans hv; have hv9 : RowAt 154 15 (.slice av l.length cv) (opRow l) w9 := hv.kept (fun g hg => hF9.block g (hv.lt hg) (by intro e; simp at e; exact nv2 (e ▸ hg))); have c9 := ck _ _ x10; have a9 : ∀ ob, (w9.alloc ob).cell? ⟨b2 + 1, 10, none⟩ = some (.slice av l.length cv) := fun ob => (World.cell?_alloc_some w9 _ ob (by rw [c9]; rfl)).trans c9) | (refine step_append_lies _ (by rfl) _ _ _ (by rfl) 0 154 i0 _ 15 120 Tryz.underlying141 hi0 hz0 hz1 hz2 rfl (by omega) (.slice av l.length cv) l.length (opRow l).flatten (by rfl) (by have := hv9.1; rw [opRow_len] at this; exact this.alloc _) ⟨w9.heap.size, 0, none⟩ 1 1 [.int .i64 o, .int .i64 num, .int .i64 c, .int .i64 kind, .int .i64 tc, .int .i64 tk, .int .i32 r, .int .i64 (q 0), .int .i64 (q 1), .int .i64 (q 2), .int .i64 (q 3), .int .i64 (q 4), .int .i64 (q 5), .int .i64 (q 6), .int .i64 (q 7)] (by rfl) (by rfl) (World.news_of_block (cs := #[.int .i64 o, .int .i64 num, .int .i64 c, .int .i64 kind, .int .i64 tc, .int .i64 tk, .int .i32 r, .int .i64 (q 0), .int .i64 (q 1), .int .i64 (q 2), .int .i64 (q 3), .int .i64 (q 4), .int .i64 (q 5), .int .i64 (q 6), .int .i64 (q 7)]) (t := 154) (fr := (0, 0)) (heap_alloc_new w9 _)) (by simp [Value.oneCell']) (by omega) (by unfold maxLen; omega) (by omega) (by simp) (w9.heap.size + 1) (by simp) ?_; intro gg capL w5 hown1 hgrow hat hlt5; have y5 : w5.heap[b2 + 1]? = w9.heap[b2 + 1]? := (hgrow.block (b2 + 1) (by have := hF9.size; simp at this ⊢; omega) (Ne.symm nv)).trans (Below.heap_alloc _ _ _ (by have := hF9.size; simp at this; omega)); have y4 : w5.cell? ⟨b2 + 1, 10, none⟩ = some (.slice av l.length cv) := (World.cell?_of_block (a := ⟨b2 + 1, 10, none⟩) y5).trans (ck _ _ x10); have f4 : w5.frozen? ⟨b2 + 1, 10, none⟩ = false := (World.frozen?_of_block (a := ⟨b2 + 1, 10, none⟩) y5).trans (frozen_blk (hF9.blk (show wr.drew.heap[b2 + 1]? = _ from k3) (by simpa using n2)) 10)))
      all_goals
        have hgr : w9.grownBy w5 (Value.slice av l.length cv).ownBlock := ⟨hgrow.os, hgrow.tape, hgrow.output, by have := hgrow.size; simp at this; omega, fun k hk e => (hgrow.block k (by simp; omega) e).trans (Below.heap_alloc _ _ _ hk)⟩
        have s9 : wr.heap.size ≤ w9.heap.size := hF9.size
        have k39 := hF9.blk (show wr.drew.heap[b2 + 1]? = _ from k3) (by simpa using n2)
        have k29 := hF9.blk (show wr.drew.heap[b2]? = _ from k2) (by simpa using n1)
        have ngw : gg ≠ b2 + 1 := fun e => by
          rcases hat with hat | hat
          · exact nv (e ▸ hat)
          · omega
        go_wp2_with fail
        go_roundg (cnt.toNat - (l.length + 1))
        case measure => omega
        case rel =>
          refine ⟨l ++ [⟨o, num, c, kind, tc, tk, r, q⟩], .slice (some ⟨gg, 0, none⟩) (l.length + 1) capL, L2, bad2, by simp; omega, by simp, ?_, ?_, ?_, ?_, ?_, ?_, ?_, Nat.le_trans hl9 hll⟩
          · unfold RdAt at hR9 ⊢
            rw [Below.heap_setCell _ _ _ _ (Ne.symm n2)]
            exact (hgr.block rb (lt_of_heap hR9) (Ne.symm nv2)).trans hR9
          · exact (set_blk (y5.trans k39)).trans rfl
          · rw [Below.heap_setCell _ _ _ _ (by simp)]
            exact (hgr.block b2 (lt_of_heap k29) (Ne.symm nv0)).trans k29
          · have hrow : RowAt 154 15 (.slice (some ⟨gg, 0, none⟩) (l.length + 1) capL) (opRow (l ++ [⟨o, num, c, kind, tc, tk, r, q⟩])) w5 := ⟨by simpa [opRow, OpR.arr, opArr] using hown1, opRow_one _⟩
            exact hrow.kept (fun g hg => Below.heap_setCell _ _ _ _ (by cases hg; exact ngw))
          · intro g hg
            cases hg
            rcases hat with hat | hat
            · exact hvn _ hat
            · have hz := hF.size; show w.heap.size ≤ gg; omega
          · exact (((hF.drew).trans hF9).grown hgr (fun k hk => .inr (hvn k hk))).setCell (p := ⟨b2 + 1, 10, none⟩) (.inr (by simp; omega)) _
          · have := ops_dec hd.out hd9.out
            exact hide (by simpa using this)
    · have hend : bad' = true ∨ (l.length : Int) = cnt := by
        cases hbb : bad' with
        | true => exact .inl rfl
        | false => right; have := mt (fun x => And.intro x hbb) hlt; omega
      have HB := hide (batch_dec HD1.out hd.out hlc hend)
      have e0 : wr.cell? ⟨b2 + 1, 0, none⟩ = some (.int .i64 1) := cell_blk k3 0
      have e1 : wr.cell? ⟨b2 + 1, 1, none⟩ = some (.int .i64 0) := cell_blk k3 1
      have e2 : wr.cell? ⟨b2 + 1, 2, none⟩ = some (.int .i64 0) := cell_blk k3 2
      have e3 : wr.cell? ⟨b2 + 1, 3, none⟩ = some (.int .i64 0) := cell_blk k3 3
      have e4 : wr.cell? ⟨b2 + 1, 4, none⟩ = some (.int .i64 0) := cell_blk k3 4
      have e5 : wr.cell? ⟨b2 + 1, 5, none⟩ = some (.int .i64 0) := cell_blk k3 5
      have e6 : wr.cell? ⟨b2 + 1, 6, none⟩ = some (.int .i64 0) := cell_blk k3 6
      have e7 : wr.cell? ⟨b2 + 1, 7, none⟩ = some (.int .i64 0) := cell_blk k3 7
      have e8 : wr.cell? ⟨b2 + 1, 8, none⟩ = some (.int .i64 0) := cell_blk k3 8
      have e9 : wr.cell? ⟨b2 + 1, 9, none⟩ = some (.int .i64 0) := cell_blk k3 9
      have e10 : wr.cell? ⟨b2 + 1, 10, none⟩ = some (.slice av l.length cv) := cell_blk k3 10
      have d0 : wr.cell? ⟨b2, 0, none⟩ = some (.int .i64 0) := cell_blk k2 0
      have f0 : wr.frozen? ⟨b2, 0, none⟩ = false := frozen_blk k2 0
      have d1 : wr.cell? ⟨b2, 1, none⟩ = some (.int .i64 0) := cell_blk k2 1
      have f1 : wr.frozen? ⟨b2, 1, none⟩ = false := frozen_blk k2 1
      have d2 : wr.cell? ⟨b2, 2, none⟩ = some (.int .i64 0) := cell_blk k2 2
      have f2 : wr.frozen? ⟨b2, 2, none⟩ = false := frozen_blk k2 2
      have d3 : wr.cell? ⟨b2, 3, none⟩ = some (.int .i64 0) := cell_blk k2 3
      have f3 : wr.frozen? ⟨b2, 3, none⟩ = false := frozen_blk k2 3
      have d4 : wr.cell? ⟨b2, 4, none⟩ = some (.int .i64 0) := cell_blk k2 4
      have f4 : wr.frozen? ⟨b2, 4, none⟩ = false := frozen_blk k2 4
      have d5 : wr.cell? ⟨b2, 5, none⟩ = some (.int .i64 0) := cell_blk k2 5
      have f5 : wr.frozen? ⟨b2, 5, none⟩ = false := frozen_blk k2 5
      have d6 : wr.cell? ⟨b2, 6, none⟩ = some (.int .i64 0) := cell_blk k2 6
      have f6 : wr.frozen? ⟨b2, 6, none⟩ = false := frozen_blk k2 6
      have d7 : wr.cell? ⟨b2, 7, none⟩ = some (.int .i64 0) := cell_blk k2 7
      have f7 : wr.frozen? ⟨b2, 7, none⟩ = false := frozen_blk k2 7
      have d8 : wr.cell? ⟨b2, 8, none⟩ = some (.int .i64 0) := cell_blk k2 8
      have f8 : wr.frozen? ⟨b2, 8, none⟩ = false := frozen_blk k2 8
      have d9 : wr.cell? ⟨b2, 9, none⟩ = some (.int .i64 0) := cell_blk k2 9
      have f9 : wr.frozen? ⟨b2, 9, none⟩ = false := frozen_blk k2 9
      have d10 : wr.cell? ⟨b2, 10, none⟩ = some (.slice none 0 0) := cell_blk k2 10
      have f10 : wr.frozen? ⟨b2, 10, none⟩ = false := frozen_blk k2 10
      by_cases hq : (l.length : Int) < cnt
      · obtain rfl : bad' = true := by
          rcases hend with e | e
          · exact e
          · omega
        go_wp2_with fail
        have hF8 : Fr [rb] w (((((((((((wr.setCell ⟨b2, 0, none⟩ (.int .i64 1)).setCell ⟨b2, 1, none⟩ (.int .i64 0)).setCell ⟨b2, 2, none⟩ (.int .i64 0)).setCell ⟨b2, 3, none⟩ (.int .i64 0)).setCell ⟨b2, 4, none⟩ (.int .i64 0)).setCell ⟨b2, 5, none⟩ (.int .i64 0)).setCell ⟨b2, 6, none⟩ (.int .i64 0)).setCell ⟨b2, 7, none⟩ (.int .i64 0)).setCell ⟨b2, 8, none⟩ (.int .i64 0)).setCell ⟨b2, 9, none⟩ (.int .i64 0)).setCell ⟨b2, 10, none⟩ (.slice av l.length cv)) := by
          iterate 11 refine Fr.setCell ?_ (.inr (by simp; omega)) _
          exact hF
        have hR8 : RdAt rb n L' true (((((((((((wr.setCell ⟨b2, 0, none⟩ (.int .i64 1)).setCell ⟨b2, 1, none⟩ (.int .i64 0)).setCell ⟨b2, 2, none⟩ (.int .i64 0)).setCell ⟨b2, 3, none⟩ (.int .i64 0)).setCell ⟨b2, 4, none⟩ (.int .i64 0)).setCell ⟨b2, 5, none⟩ (.int .i64 0)).setCell ⟨b2, 6, none⟩ (.int .i64 0)).setCell ⟨b2, 7, none⟩ (.int .i64 0)).setCell ⟨b2, 8, none⟩ (.int .i64 0)).setCell ⟨b2, 9, none⟩ (.int .i64 0)).setCell ⟨b2, 10, none⟩ (.slice av l.length cv)) := by
          unfold RdAt at hR ⊢
          iterate 11 rw [Below.heap_setCell _ _ _ _ (Ne.symm n1)]
          exact hR
        have hv8 : RowAt 154 15 (.slice av l.length cv) (opRow l) (((((((((((wr.setCell ⟨b2, 0, none⟩ (.int .i64 1)).setCell ⟨b2, 1, none⟩ (.int .i64 0)).setCell ⟨b2, 2, none⟩ (.int .i64 0)).setCell ⟨b2, 3, none⟩ (.int .i64 0)).setCell ⟨b2, 4, none⟩ (.int .i64 0)).setCell ⟨b2, 5, none⟩ (.int .i64 0)).setCell ⟨b2, 6, none⟩ (.int .i64 0)).setCell ⟨b2, 7, none⟩ (.int .i64 0)).setCell ⟨b2, 8, none⟩ (.int .i64 0)).setCell ⟨b2, 9, none⟩ (.int .i64 0)).setCell ⟨b2, 10, none⟩ (.slice av l.length cv)) := hv.kept (fun g hg => by
          have hgn : g ≠ b2 := fun e => nv0 (e ▸ hg)
          iterate 11 rw [Below.heap_setCell _ _ _ _ hgn])
        have hk8 : (((((((((((wr.setCell ⟨b2, 0, none⟩ (.int .i64 1)).setCell ⟨b2, 1, none⟩ (.int .i64 0)).setCell ⟨b2, 2, none⟩ (.int .i64 0)).setCell ⟨b2, 3, none⟩ (.int .i64 0)).setCell ⟨b2, 4, none⟩ (.int .i64 0)).setCell ⟨b2, 5, none⟩ (.int .i64 0)).setCell ⟨b2, 6, none⟩ (.int .i64 0)).setCell ⟨b2, 7, none⟩ (.int .i64 0)).setCell ⟨b2, 8, none⟩ (.int .i64 0)).setCell ⟨b2, 9, none⟩ (.int .i64 0)).setCell ⟨b2, 10, none⟩ (.slice av l.length cv)).heap[b2]? = some (.cells #[.int .i64 1, .int .i64 0, .int .i64 0, .int .i64 0, .int .i64 0, .int .i64 0, .int .i64 0, .int .i64 0, .int .i64 0, .int .i64 0, .slice av l.length cv] 143) := set11_blk k2
        generalize (((((((((((wr.setCell ⟨b2, 0, none⟩ (.int .i64 1)).setCell ⟨b2, 1, none⟩ (.int .i64 0)).setCell ⟨b2, 2, none⟩ (.int .i64 0)).setCell ⟨b2, 3, none⟩ (.int .i64 0)).setCell ⟨b2, 4, none⟩ (.int .i64 0)).setCell ⟨b2, 5, none⟩ (.int .i64 0)).setCell ⟨b2, 6, none⟩ (.int .i64 0)).setCell ⟨b2, 7, none⟩ (.int .i64 0)).setCell ⟨b2, 8, none⟩ (.int .i64 0)).setCell ⟨b2, 9, none⟩ (.int .i64 0)).setCell ⟨b2, 10, none⟩ (.slice av l.length cv)) = w8 at hF8 hR8 hk8 hv8 ⊢
        clear d0 e0 f0 d1 e1 f1 d2 e2 f2 d3 e3 f3 d4 e4 f4 d5 e5 f5 d6 e6 f6 d7 e7 f7 d8 e8 f8 d9 e9 f9 d10 e10 f10
        have d0 : w8.cell? ⟨b2, 0, none⟩ = some (.int .i64 1) := cell_blk hk8 0
        have d1 : w8.cell? ⟨b2, 1, none⟩ = some (.int .i64 0) := cell_blk hk8 1
        have d2 : w8.cell? ⟨b2, 2, none⟩ = some (.int .i64 0) := cell_blk hk8 2
        have d3 : w8.cell? ⟨b2, 3, none⟩ = some (.int .i64 0) := cell_blk hk8 3
        have d4 : w8.cell? ⟨b2, 4, none⟩ = some (.int .i64 0) := cell_blk hk8 4
        have d5 : w8.cell? ⟨b2, 5, none⟩ = some (.int .i64 0) := cell_blk hk8 5
        have d6 : w8.cell? ⟨b2, 6, none⟩ = some (.int .i64 0) := cell_blk hk8 6
        have d7 : w8.cell? ⟨b2, 7, none⟩ = some (.int .i64 0) := cell_blk hk8 7
        have d8 : w8.cell? ⟨b2, 8, none⟩ = some (.int .i64 0) := cell_blk hk8 8
        have d9 : w8.cell? ⟨b2, 9, none⟩ = some (.int .i64 0) := cell_blk hk8 9
        have d10 : w8.cell? ⟨b2, 10, none⟩ = some (.slice av l.length cv) := cell_blk hk8 10
        exact bodyPost_ret (v := .agg (frArr 1 0 (fun _ => 0) (.slice av l.length cv))) (by simp [results, Tryz.results127, go_sem, frArr, d0, d1, d2, d3, d4, d5, d6, d7, d8, d9, d10]) rfl ⟨l, _, L', true, rfl, hv8, hvn, hR8, hF8, HB.out, by omega, by omega⟩
      · clear hend
        go_wp2_with fail
        have hF8 : Fr [rb] w (((((((((((wr.setCell ⟨b2, 0, none⟩ (.int .i64 1)).setCell ⟨b2, 1, none⟩ (.int .i64 0)).setCell ⟨b2, 2, none⟩ (.int .i64 0)).setCell ⟨b2, 3, none⟩ (.int .i64 0)).setCell ⟨b2, 4, none⟩ (.int .i64 0)).setCell ⟨b2, 5, none⟩ (.int .i64 0)).setCell ⟨b2, 6, none⟩ (.int .i64 0)).setCell ⟨b2, 7, none⟩ (.int .i64 0)).setCell ⟨b2, 8, none⟩ (.int .i64 0)).setCell ⟨b2, 9, none⟩ (.int .i64 0)).setCell ⟨b2, 10, none⟩ (.slice av l.length cv)) := by
          iterate 11 refine Fr.setCell ?_ (.inr (by simp; omega)) _
          exact hF
        have hR8 : RdAt rb n L' bad' (((((((((((wr.setCell ⟨b2, 0, none⟩ (.int .i64 1)).setCell ⟨b2, 1, none⟩ (.int .i64 0)).setCell ⟨b2, 2, none⟩ (.int .i64 0)).setCell ⟨b2, 3, none⟩ (.int .i64 0)).setCell ⟨b2, 4, none⟩ (.int .i64 0)).setCell ⟨b2, 5, none⟩ (.int .i64 0)).setCell ⟨b2, 6, none⟩ (.int .i64 0)).setCell ⟨b2, 7, none⟩ (.int .i64 0)).setCell ⟨b2, 8, none⟩ (.int .i64 0)).setCell ⟨b2, 9, none⟩ (.int .i64 0)).setCell ⟨b2, 10, none⟩ (.slice av l.length cv)) := by
          unfold RdAt at hR ⊢
          iterate 11 rw [Below.heap_setCell _ _ _ _ (Ne.symm n1)]
          exact hR
        have hv8 : RowAt 154 15 (.slice av l.length cv) (opRow l) (((((((((((wr.setCell ⟨b2, 0, none⟩ (.int .i64 1)).setCell ⟨b2, 1, none⟩ (.int .i64 0)).setCell ⟨b2, 2, none⟩ (.int .i64 0)).setCell ⟨b2, 3, none⟩ (.int .i64 0)).setCell ⟨b2, 4, none⟩ (.int .i64 0)).setCell ⟨b2, 5, none⟩ (.int .i64 0)).setCell ⟨b2, 6, none⟩ (.int .i64 0)).setCell ⟨b2, 7, none⟩ (.int .i64 0)).setCell ⟨b2, 8, none⟩ (.int .i64 0)).setCell ⟨b2, 9, none⟩ (.int .i64 0)).setCell ⟨b2, 10, none⟩ (.slice av l.length cv)) := hv.kept (fun g hg => by
          have hgn : g ≠ b2 := fun e => nv0 (e ▸ hg)
          iterate 11 rw [Below.heap_setCell _ _ _ _ hgn])
        have hk8 : (((((((((((wr.setCell ⟨b2, 0, none⟩ (.int .i64 1)).setCell ⟨b2, 1, none⟩ (.int .i64 0)).setCell ⟨b2, 2, none⟩ (.int .i64 0)).setCell ⟨b2, 3, none⟩ (.int .i64 0)).setCell ⟨b2, 4, none⟩ (.int .i64 0)).setCell ⟨b2, 5, none⟩ (.int .i64 0)).setCell ⟨b2, 6, none⟩ (.int .i64 0)).setCell ⟨b2, 7, none⟩ (.int .i64 0)).setCell ⟨b2, 8, none⟩ (.int .i64 0)).setCell ⟨b2, 9, none⟩ (.int .i64 0)).setCell ⟨b2, 10, none⟩ (.slice av l.length cv)).heap[b2]? = some (.cells #[.int .i64 1, .int .i64 0, .int .i64 0, .int .i64 0, .int .i64 0, .int .i64 0, .int .i64 0, .int .i64 0, .int .i64 0, .int .i64 0, .slice av l.length cv] 143) := set11_blk k2
        generalize (((((((((((wr.setCell ⟨b2, 0, none⟩ (.int .i64 1)).setCell ⟨b2, 1, none⟩ (.int .i64 0)).setCell ⟨b2, 2, none⟩ (.int .i64 0)).setCell ⟨b2, 3, none⟩ (.int .i64 0)).setCell ⟨b2, 4, none⟩ (.int .i64 0)).setCell ⟨b2, 5, none⟩ (.int .i64 0)).setCell ⟨b2, 6, none⟩ (.int .i64 0)).setCell ⟨b2, 7, none⟩ (.int .i64 0)).setCell ⟨b2, 8, none⟩ (.int .i64 0)).setCell ⟨b2, 9, none⟩ (.int .i64 0)).setCell ⟨b2, 10, none⟩ (.slice av l.length cv)) = w8 at hF8 hR8 hk8 hv8 ⊢
        clear d0 e0 f0 d1 e1 f1 d2 e2 f2 d3 e3 f3 d4 e4 f4 d5 e5 f5 d6 e6 f6 d7 e7 f7 d8 e8 f8 d9 e9 f9 d10 e10 f10
        have d0 : w8.cell? ⟨b2, 0, none⟩ = some (.int .i64 1) := cell_blk hk8 0
        have d1 : w8.cell? ⟨b2, 1, none⟩ = some (.int .i64 0) := cell_blk hk8 1
        have d2 : w8.cell? ⟨b2, 2, none⟩ = some (.int .i64 0) := cell_blk hk8 2
        have d3 : w8.cell? ⟨b2, 3, none⟩ = some (.int .i64 0) := cell_blk hk8 3
        have d4 : w8.cell? ⟨b2, 4, none⟩ = some (.int .i64 0) := cell_blk hk8 4
        have d5 : w8.cell? ⟨b2, 5, none⟩ = some (.int .i64 0) := cell_blk hk8 5
        have d6 : w8.cell? ⟨b2, 6, none⟩ = some (.int .i64 0) := cell_blk hk8 6
        have d7 : w8.cell? ⟨b2, 7, none⟩ = some (.int .i64 0) := cell_blk hk8 7
        have d8 : w8.cell? ⟨b2, 8, none⟩ = some (.int .i64 0) := cell_blk hk8 8
        have d9 : w8.cell? ⟨b2, 9, none⟩ = some (.int .i64 0) := cell_blk hk8 9
        have d10 : w8.cell? ⟨b2, 10, none⟩ = some (.slice av l.length cv) := cell_blk hk8 10
        exact bodyPost_ret (v := .agg (frArr 1 0 (fun _ => 0) (.slice av l.length cv))) (by simp [results, Tryz.results127, go_sem, frArr, d0, d1, d2, d3, d4, d5, d6, d7, d8, d9, d10]) rfl ⟨l, _, L', bad', rfl, hv8, hvn, hR8, hF8, HB.out, by omega, by omega⟩

end Go.Proofs.YtachmkhbbbmioaaGreat
