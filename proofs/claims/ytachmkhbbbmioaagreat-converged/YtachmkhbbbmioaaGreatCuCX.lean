import Derived.Test.YtachmkhbbbmioaaGreatTkFX
import Derived.Test.YtachmkhbbbmioaaGreatFrRX
import Derived.Test.YtachmkhbbbmioaaGreatBuilderX
namespace Go.Proofs.YtachmkhbbbmioaaGreat
open Go.RowKit Go.Shelf

def qOf (xs : List Int) : Nat → Int := fun i => xs.getD i 0
theorem clk_qOf (xs : List Int) : clk xs.length (qOf xs) = xs := by
  apply List.ext_getElem?
  intro i
  by_cases h : i < xs.length
  · rw [clk_at _ h]
    simp [qOf, h]
  · rw [List.getElem?_eq_none (by rw [clk_len]; omega), List.getElem?_eq_none (by omega)]
theorem qOf_out {xs : List Int} {i : Nat} (h : xs.length ≤ i) : qOf xs i = 0 := by
  unfold qOf
  rw [List.getD_eq_getElem?_getD, List.getElem?_eq_none h]; rfl
theorem qOf_clk {n : Nat} {q : Nat → Int} (h : ∀ i, n ≤ i → q i = 0) : qOf (clk n q) = q := by
  funext i
  by_cases hi : i < n
  · unfold qOf
    rw [List.getD_eq_getElem?_getD, clk_at _ hi]; rfl
  · rw [qOf_out (by rw [clk_len]; omega), h i (by omega)]

theorem opc_cmp {n : Nat} {L L1 L2 L3 L4 L5 L6 L7 L8 : List UInt8} {b b1 b2 b3 b4 b5 b6 b7 b8 : Bool} {o num c kind tc tk r : Int} {xs : List Int}
    (d1 : Cmp vbI N7 L b o L1 b1) (d2 : Cmp vbI N7 L1 b1 num L2 b2) (d3 : Cmp vbI N7 L2 b2 c L3 b3) (d4 : Cmp vbI N7 L3 b3 kind L4 b4) (d5 : Cmp vbI N7 L4 b4 tc L5 b5) (d6 : Cmp vbI N7 L5 b5 tk L6 b6)
    (h8 : n ≤ 8) (d7 : Cmp (rEnc kind) (fun r => rOk kind r ∧ (kind = 0 ∨ kind = 1)) L6 b6 r L7 b7) (d8 : Cmp vbs (fun u => u.length = n ∧ ∀ y ∈ u, N7 y) L7 b7 xs L8 b8) : Cmp (OpR.bytes n) (Ok8 n) L b ⟨o, num, c, kind, tc, tk, r, qOf xs⟩ L8 b8 := by
  intro h u rest hu hL
  rw [bytes_eq] at hL
  simp only [List.append_assoc, tEnc] at hL
  have ho := hu.o
  have hn := hu.num
  have hc := hu.c
  have hk := hu.kind
  have ht := hu.tgt
  · obtain ⟨e1, v1, m1⟩ := d1 h u.o _ ⟨by omega, by omega⟩ hL
    obtain ⟨e2, v2, m2⟩ := d2 e1 u.num _ ⟨by omega, by omega⟩ m1
    obtain ⟨e3, v3, m3⟩ := d3 e2 u.c _ ⟨by omega, by omega⟩ m2
    obtain ⟨e4, v4, m4⟩ := d4 e3 u.kind _ ⟨by omega, by omega⟩ m3
    obtain ⟨e5, v5, m5⟩ := d5 e4 u.tc _ ⟨by omega, by omega⟩ m4
    obtain ⟨e6, v6, m6⟩ := d6 e5 u.tk _ ⟨by omega, by omega⟩ m5
    subst v1 v2 v3 v4 v5 v6
    obtain ⟨e7, v7, m7⟩ := d7 e6 u.r _ ⟨⟨hu.r, hu.r1⟩, by omega⟩ m6
    obtain ⟨e8, v8, m8⟩ := d8 e7 (clk n u.q) rest ⟨clk_len n u.q, fun y hy => by
      obtain ⟨i, hi, rfl⟩ := clk_mem hy
      have := hu.q i hi
      exact ⟨by omega, by omega⟩⟩ m7
    subst v7
    refine ⟨e8, ?_, m8⟩
    rw [v8, qOf_clk hu.q0]

theorem rune_cmp {L L' : List UInt8} {b b' : Bool} {r : Int} (h : Cmp vbI N7 L b r L' b') : Cmp (rEnc 0) (fun r => rOk 0 r ∧ ((0 : Int) = 0 ∨ (0 : Int) = 1)) L b r L' b' := by
  intro q u rest hu hL
  have hs := hu.1.1 rfl
  exact h q u rest ⟨hs.1, by have := hs.2.1; omega⟩ (by simpa [rEnc] using hL)
theorem no_rune_cmp (kind : Int) (hk : kind ≠ 0) (L : List UInt8) (b : Bool) : Cmp (rEnc kind) (fun r => rOk kind r ∧ (kind = 0 ∨ kind = 1)) L b 0 L b := by
  intro q u rest hu hL
  exact ⟨q, (hu.1.2 (by have := hu.2; omega)).symm, by simpa [rEnc, hk] using hL⟩

/-- What comes of reading an operation. -/
def OpCu (cb n : Nat) (L : List UInt8) (bad : Bool) (w : World) (e : Ending) (w' : World) : Prop :=
  ∃ (o num c kind tc tk r : Int) (xs : List Int) (vk : Value) (L' : List UInt8) (bad' : Bool), e = .returned (.agg #[.int .i64 o, .int .i64 num, .int .i64 c, .int .i64 kind, .int .i64 tc, .int .i64 tk, .int .i64 r, vk]) ∧ RowAt 3 1 vk (intRow xs) w' ∧ xs.length = n ∧ (∀ x ∈ xs, N7 x) ∧
    (N7 o ∧ N7 num ∧ N7 c ∧ N7 kind ∧ N7 tc ∧ N7 tk ∧ N7 r ∧ (kind ≠ 0 → r = 0)) ∧ CuAt cb L' bad' w' ∧ Fr [cb] w w' ∧ (∀ g, vk.ownBlock = some g → w.heap.size ≤ g) ∧ L'.length ≤ L.length ∧ Cmp (OpR.bytes n) (Ok8 n) L bad ⟨o, num, c, kind, tc, tk, r, qOf xs⟩ L' bad' ∧ (bad' = false → bad = false ∧ L'.length + 1 ≤ L.length)

set_option maxRecDepth 100000 in
set_option maxHeartbeats 4000000 in
theorem cuOpP (cb n : Nat) (h8 : n ≤ 8) (L : List UInt8) (bad : Bool) (hl : L.length ≤ 1000) (w : World) (h : CuAt cb L bad w) :
    Calls Tryz.prog 98 #[.pointer (some ⟨cb, 0, none⟩), .int .i64 n] w fun e w' => OpCu cb n L bad w e w' := by
  have hrlt : cb < w.heap.size := lt_of_heap h
  go_enter Tryz.func98, Tryz.ntmps98
  go_upto_region 2 with fail
  have g1 : w.grownBy ((w.alloc (.cells #[.int .i64 0, .int .i64 0, .int .i64 0, .int .i64 0, .int .i64 0, .int .i64 0, .int .i64 0, .slice none 0 0] 88)).alloc (.cells #[.int .i64 0, .int .i64 0, .int .i64 0, .int .i64 0, .int .i64 0, .int .i64 0, .int .i64 0, .slice none 0 0] 88)) none := grown_alloc (grown_alloc (grown_refl _) _) _
  have k2 : ((w.alloc (.cells #[.int .i64 0, .int .i64 0, .int .i64 0, .int .i64 0, .int .i64 0, .int .i64 0, .int .i64 0, .slice none 0 0] 88)).alloc (.cells #[.int .i64 0, .int .i64 0, .int .i64 0, .int .i64 0, .int .i64 0, .int .i64 0, .int .i64 0, .slice none 0 0] 88)).heap[w.heap.size]? = some (.cells #[.int .i64 0, .int .i64 0, .int .i64 0, .int .i64 0, .int .i64 0, .int .i64 0, .int .i64 0, .slice none 0 0] 88) := by simp only [heap_alloc_at, World.size_alloc]; simp
  have k3 : ((w.alloc (.cells #[.int .i64 0, .int .i64 0, .int .i64 0, .int .i64 0, .int .i64 0, .int .i64 0, .int .i64 0, .slice none 0 0] 88)).alloc (.cells #[.int .i64 0, .int .i64 0, .int .i64 0, .int .i64 0, .int .i64 0, .int .i64 0, .int .i64 0, .slice none 0 0] 88)).heap[w.heap.size + 1]? = some (.cells #[.int .i64 0, .int .i64 0, .int .i64 0, .int .i64 0, .int .i64 0, .int .i64 0, .int .i64 0, .slice none 0 0] 88) := by simp only [heap_alloc_at, World.size_alloc]; simp
  generalize ((w.alloc (.cells #[.int .i64 0, .int .i64 0, .int .i64 0, .int .i64 0, .int .i64 0, .int .i64 0, .int .i64 0, .slice none 0 0] 88)).alloc (.cells #[.int .i64 0, .int .i64 0, .int .i64 0, .int .i64 0, .int .i64 0, .int .i64 0, .int .i64 0, .slice none 0 0] 88)) = w1 at g1 k2 k3 ⊢
  have hR : CuAt cb L bad w1 := (g1.block _ hrlt (by simp)).trans h
  have hF : Fr [cb] w w1 := Fr.ofGrown g1
  obtain ⟨b2, hb2⟩ : ∃ b, w.heap.size = b := ⟨_, rfl⟩
  rw [hb2] at k2 k3 ⊢
  have n1 : b2 ≠ cb := by omega
  have n2 : b2 + 1 ≠ cb := by omega
  clear h g1
  have H1 := hide (cuNumP cb L bad (by omega) w1 hR)
  go_wp2_with fail
  refine H1.out.mono ?_
  rintro e u1 ⟨o, L1, bd1, rfl, hX⟩
  have i1 := hide hX.inn
  have l1 := hX.len
  have q3 := hX.fr.blk k3 (by simpa using n2)
  have q2 := hX.fr.blk k2 (by simpa using n1)
  have d : u1.cell? ⟨b2 + 1, 0, none⟩ = some (.int .i64 0) := cell_blk q3 0
  have f : u1.frozen? ⟨b2 + 1, 0, none⟩ = false := frozen_blk q3 0
  go_upto_region 3 with fail
  have r3 : (u1.setCell ⟨b2 + 1, 0, none⟩ (.int .i64 o)).heap[b2 + 1]? = some (.cells #[.int .i64 o, .int .i64 0, .int .i64 0, .int .i64 0, .int .i64 0, .int .i64 0, .int .i64 0, .slice none 0 0] 88) := by rw [set_blk q3]; rfl
  have r2 : (u1.setCell ⟨b2 + 1, 0, none⟩ (.int .i64 o)).heap[b2]? = some (.cells #[.int .i64 0, .int .i64 0, .int .i64 0, .int .i64 0, .int .i64 0, .int .i64 0, .int .i64 0, .slice none 0 0] 88) := by rw [Below.heap_setCell _ _ _ _ (by simp)]; exact q2
  have rR : CuAt cb L1 bd1 (u1.setCell ⟨b2 + 1, 0, none⟩ (.int .i64 o)) := by
    have hq := hX.at'
    unfold CuAt at hq ⊢
    rw [Below.heap_setCell _ _ _ _ (Ne.symm n2)]; exact hq
  have rF : Fr [cb] w (u1.setCell ⟨b2 + 1, 0, none⟩ (.int .i64 o)) := (hF.trans hX.fr).setCell (.inr (by simp; omega)) _
  have D1 := hide hX.cmp
  have M1 := hide hX.con
  generalize (u1.setCell ⟨b2 + 1, 0, none⟩ (.int .i64 o)) = w2 at r3 r2 rR rF ⊢
  clear k3 k2 hR hF q3 q2 d f hX H1
  rename w2.heap[b2 + 1]? = _ => k3
  rename w2.heap[b2]? = _ => k2
  rename CuAt cb L1 bd1 w2 => hR
  rename Fr [cb] w w2 => hF
  have H2 := hide (cuNumP cb L1 bd1 (by omega) w2 hR)
  go_wp2_with fail
  refine H2.out.mono ?_
  rintro e u2 ⟨num, L2, bd2, rfl, hX⟩
  have i2 := hide hX.inn
  have l2 := hX.len
  have q3 := hX.fr.blk k3 (by simpa using n2)
  have q2 := hX.fr.blk k2 (by simpa using n1)
  have d : u2.cell? ⟨b2 + 1, 1, none⟩ = some (.int .i64 0) := cell_blk q3 1
  have f : u2.frozen? ⟨b2 + 1, 1, none⟩ = false := frozen_blk q3 1
  go_upto_region 4 with fail
  have r3 : (u2.setCell ⟨b2 + 1, 1, none⟩ (.int .i64 num)).heap[b2 + 1]? = some (.cells #[.int .i64 o, .int .i64 num, .int .i64 0, .int .i64 0, .int .i64 0, .int .i64 0, .int .i64 0, .slice none 0 0] 88) := by rw [set_blk q3]; rfl
  have r2 : (u2.setCell ⟨b2 + 1, 1, none⟩ (.int .i64 num)).heap[b2]? = some (.cells #[.int .i64 0, .int .i64 0, .int .i64 0, .int .i64 0, .int .i64 0, .int .i64 0, .int .i64 0, .slice none 0 0] 88) := by rw [Below.heap_setCell _ _ _ _ (by simp)]; exact q2
  have rR : CuAt cb L2 bd2 (u2.setCell ⟨b2 + 1, 1, none⟩ (.int .i64 num)) := by
    have hq := hX.at'
    unfold CuAt at hq ⊢
    rw [Below.heap_setCell _ _ _ _ (Ne.symm n2)]; exact hq
  have rF : Fr [cb] w (u2.setCell ⟨b2 + 1, 1, none⟩ (.int .i64 num)) := (hF.trans hX.fr).setCell (.inr (by simp; omega)) _
  have D2 := hide hX.cmp
  have M2 := hide hX.con
  generalize (u2.setCell ⟨b2 + 1, 1, none⟩ (.int .i64 num)) = w3 at r3 r2 rR rF ⊢
  clear k3 k2 hR hF q3 q2 d f hX H2
  rename w3.heap[b2 + 1]? = _ => k3
  rename w3.heap[b2]? = _ => k2
  rename CuAt cb L2 bd2 w3 => hR
  rename Fr [cb] w w3 => hF
  have H3 := hide (cuNumP cb L2 bd2 (by omega) w3 hR)
  go_wp2_with fail
  refine H3.out.mono ?_
  rintro e u3 ⟨c, L3, bd3, rfl, hX⟩
  have i3 := hide hX.inn
  have l3 := hX.len
  have q3 := hX.fr.blk k3 (by simpa using n2)
  have q2 := hX.fr.blk k2 (by simpa using n1)
  have d : u3.cell? ⟨b2 + 1, 2, none⟩ = some (.int .i64 0) := cell_blk q3 2
  have f : u3.frozen? ⟨b2 + 1, 2, none⟩ = false := frozen_blk q3 2
  go_upto_region 5 with fail
  have r3 : (u3.setCell ⟨b2 + 1, 2, none⟩ (.int .i64 c)).heap[b2 + 1]? = some (.cells #[.int .i64 o, .int .i64 num, .int .i64 c, .int .i64 0, .int .i64 0, .int .i64 0, .int .i64 0, .slice none 0 0] 88) := by rw [set_blk q3]; rfl
  have r2 : (u3.setCell ⟨b2 + 1, 2, none⟩ (.int .i64 c)).heap[b2]? = some (.cells #[.int .i64 0, .int .i64 0, .int .i64 0, .int .i64 0, .int .i64 0, .int .i64 0, .int .i64 0, .slice none 0 0] 88) := by rw [Below.heap_setCell _ _ _ _ (by simp)]; exact q2
  have rR : CuAt cb L3 bd3 (u3.setCell ⟨b2 + 1, 2, none⟩ (.int .i64 c)) := by
    have hq := hX.at'
    unfold CuAt at hq ⊢
    rw [Below.heap_setCell _ _ _ _ (Ne.symm n2)]; exact hq
  have rF : Fr [cb] w (u3.setCell ⟨b2 + 1, 2, none⟩ (.int .i64 c)) := (hF.trans hX.fr).setCell (.inr (by simp; omega)) _
  have D3 := hide hX.cmp
  have M3 := hide hX.con
  generalize (u3.setCell ⟨b2 + 1, 2, none⟩ (.int .i64 c)) = w4 at r3 r2 rR rF ⊢
  clear k3 k2 hR hF q3 q2 d f hX H3
  rename w4.heap[b2 + 1]? = _ => k3
  rename w4.heap[b2]? = _ => k2
  rename CuAt cb L3 bd3 w4 => hR
  rename Fr [cb] w w4 => hF
  have H4 := hide (cuNumP cb L3 bd3 (by omega) w4 hR)
  go_wp2_with fail
  refine H4.out.mono ?_
  rintro e u4 ⟨kind, L4, bd4, rfl, hX⟩
  have i4 := hide hX.inn
  have l4 := hX.len
  have q3 := hX.fr.blk k3 (by simpa using n2)
  have q2 := hX.fr.blk k2 (by simpa using n1)
  have d : u4.cell? ⟨b2 + 1, 3, none⟩ = some (.int .i64 0) := cell_blk q3 3
  have f : u4.frozen? ⟨b2 + 1, 3, none⟩ = false := frozen_blk q3 3
  go_upto_region 6 with fail
  have r3 : (u4.setCell ⟨b2 + 1, 3, none⟩ (.int .i64 kind)).heap[b2 + 1]? = some (.cells #[.int .i64 o, .int .i64 num, .int .i64 c, .int .i64 kind, .int .i64 0, .int .i64 0, .int .i64 0, .slice none 0 0] 88) := by rw [set_blk q3]; rfl
  have r2 : (u4.setCell ⟨b2 + 1, 3, none⟩ (.int .i64 kind)).heap[b2]? = some (.cells #[.int .i64 0, .int .i64 0, .int .i64 0, .int .i64 0, .int .i64 0, .int .i64 0, .int .i64 0, .slice none 0 0] 88) := by rw [Below.heap_setCell _ _ _ _ (by simp)]; exact q2
  have rR : CuAt cb L4 bd4 (u4.setCell ⟨b2 + 1, 3, none⟩ (.int .i64 kind)) := by
    have hq := hX.at'
    unfold CuAt at hq ⊢
    rw [Below.heap_setCell _ _ _ _ (Ne.symm n2)]; exact hq
  have rF : Fr [cb] w (u4.setCell ⟨b2 + 1, 3, none⟩ (.int .i64 kind)) := (hF.trans hX.fr).setCell (.inr (by simp; omega)) _
  have D4 := hide hX.cmp
  have M4 := hide hX.con
  generalize (u4.setCell ⟨b2 + 1, 3, none⟩ (.int .i64 kind)) = w5 at r3 r2 rR rF ⊢
  clear k3 k2 hR hF q3 q2 d f hX H4
  rename w5.heap[b2 + 1]? = _ => k3
  rename w5.heap[b2]? = _ => k2
  rename CuAt cb L4 bd4 w5 => hR
  rename Fr [cb] w w5 => hF
  have H5 := hide (cuNumP cb L4 bd4 (by omega) w5 hR)
  go_wp2_with fail
  refine H5.out.mono ?_
  rintro e u5 ⟨tc, L5, bd5, rfl, hX⟩
  have i5 := hide hX.inn
  have l5 := hX.len
  have q3 := hX.fr.blk k3 (by simpa using n2)
  have q2 := hX.fr.blk k2 (by simpa using n1)
  have d : u5.cell? ⟨b2 + 1, 4, none⟩ = some (.int .i64 0) := cell_blk q3 4
  have f : u5.frozen? ⟨b2 + 1, 4, none⟩ = false := frozen_blk q3 4
  go_upto_region 7 with fail
  have r3 : (u5.setCell ⟨b2 + 1, 4, none⟩ (.int .i64 tc)).heap[b2 + 1]? = some (.cells #[.int .i64 o, .int .i64 num, .int .i64 c, .int .i64 kind, .int .i64 tc, .int .i64 0, .int .i64 0, .slice none 0 0] 88) := by rw [set_blk q3]; rfl
  have r2 : (u5.setCell ⟨b2 + 1, 4, none⟩ (.int .i64 tc)).heap[b2]? = some (.cells #[.int .i64 0, .int .i64 0, .int .i64 0, .int .i64 0, .int .i64 0, .int .i64 0, .int .i64 0, .slice none 0 0] 88) := by rw [Below.heap_setCell _ _ _ _ (by simp)]; exact q2
  have rR : CuAt cb L5 bd5 (u5.setCell ⟨b2 + 1, 4, none⟩ (.int .i64 tc)) := by
    have hq := hX.at'
    unfold CuAt at hq ⊢
    rw [Below.heap_setCell _ _ _ _ (Ne.symm n2)]; exact hq
  have rF : Fr [cb] w (u5.setCell ⟨b2 + 1, 4, none⟩ (.int .i64 tc)) := (hF.trans hX.fr).setCell (.inr (by simp; omega)) _
  have D5 := hide hX.cmp
  have M5 := hide hX.con
  generalize (u5.setCell ⟨b2 + 1, 4, none⟩ (.int .i64 tc)) = w6 at r3 r2 rR rF ⊢
  clear k3 k2 hR hF q3 q2 d f hX H5
  rename w6.heap[b2 + 1]? = _ => k3
  rename w6.heap[b2]? = _ => k2
  rename CuAt cb L5 bd5 w6 => hR
  rename Fr [cb] w w6 => hF
  have H6 := hide (cuNumP cb L5 bd5 (by omega) w6 hR)
  go_wp2_with fail
  refine H6.out.mono ?_
  rintro e u6 ⟨tk, L6, bd6, rfl, hX⟩
  have i6 := hide hX.inn
  have l6 := hX.len
  have q3 := hX.fr.blk k3 (by simpa using n2)
  have q2 := hX.fr.blk k2 (by simpa using n1)
  have d : u6.cell? ⟨b2 + 1, 5, none⟩ = some (.int .i64 0) := cell_blk q3 5
  have f : u6.frozen? ⟨b2 + 1, 5, none⟩ = false := frozen_blk q3 5
  go_upto_region 8 with fail
  have r3 : (u6.setCell ⟨b2 + 1, 5, none⟩ (.int .i64 tk)).heap[b2 + 1]? = some (.cells #[.int .i64 o, .int .i64 num, .int .i64 c, .int .i64 kind, .int .i64 tc, .int .i64 tk, .int .i64 0, .slice none 0 0] 88) := by rw [set_blk q3]; rfl
  have r2 : (u6.setCell ⟨b2 + 1, 5, none⟩ (.int .i64 tk)).heap[b2]? = some (.cells #[.int .i64 0, .int .i64 0, .int .i64 0, .int .i64 0, .int .i64 0, .int .i64 0, .int .i64 0, .slice none 0 0] 88) := by rw [Below.heap_setCell _ _ _ _ (by simp)]; exact q2
  have rR : CuAt cb L6 bd6 (u6.setCell ⟨b2 + 1, 5, none⟩ (.int .i64 tk)) := by
    have hq := hX.at'
    unfold CuAt at hq ⊢
    rw [Below.heap_setCell _ _ _ _ (Ne.symm n2)]; exact hq
  have rF : Fr [cb] w (u6.setCell ⟨b2 + 1, 5, none⟩ (.int .i64 tk)) := (hF.trans hX.fr).setCell (.inr (by simp; omega)) _
  have D6 := hide hX.cmp
  have M6 := hide hX.con
  generalize (u6.setCell ⟨b2 + 1, 5, none⟩ (.int .i64 tk)) = w7 at r3 r2 rR rF ⊢
  clear k3 k2 hR hF q3 q2 d f hX H6
  rename w7.heap[b2 + 1]? = _ => k3
  rename w7.heap[b2]? = _ => k2
  rename CuAt cb L6 bd6 w7 => hR
  rename Fr [cb] w w7 => hF
  have d3 : w7.cell? ⟨b2 + 1, 3, none⟩ = some (.int .i64 kind) := cell_blk k3 3
  by_cases hk0 : kind = 0
  · subst hk0
    have H7 := hide (cuNumP cb L6 bd6 (by omega) w7 hR)
    go_wp2_with fail
    refine H7.out.mono ?_
    rintro e u7 ⟨r, L7, bd7, rfl, hX⟩
    have i7 := hide hX.inn
    have l7 := hX.len
    have q3 := hX.fr.blk k3 (by simpa using n2)
    have q2 := hX.fr.blk k2 (by simpa using n1)
    have d : u7.cell? ⟨b2 + 1, 6, none⟩ = some (.int .i64 0) := cell_blk q3 6
    have f : u7.frozen? ⟨b2 + 1, 6, none⟩ = false := frozen_blk q3 6
    go_upto_region 10 with fail
    have r3 : (u7.setCell ⟨b2 + 1, 6, none⟩ (.int .i64 r)).heap[b2 + 1]? = some (.cells #[.int .i64 o, .int .i64 num, .int .i64 c, .int .i64 0, .int .i64 tc, .int .i64 tk, .int .i64 r, .slice none 0 0] 88) := by rw [set_blk q3]; rfl
    have r2 : (u7.setCell ⟨b2 + 1, 6, none⟩ (.int .i64 r)).heap[b2]? = some (.cells #[.int .i64 0, .int .i64 0, .int .i64 0, .int .i64 0, .int .i64 0, .int .i64 0, .int .i64 0, .slice none 0 0] 88) := by rw [Below.heap_setCell _ _ _ _ (by simp)]; exact q2
    have rR : CuAt cb L7 bd7 (u7.setCell ⟨b2 + 1, 6, none⟩ (.int .i64 r)) := by
      have hq := hX.at'
      unfold CuAt at hq ⊢
      rw [Below.heap_setCell _ _ _ _ (Ne.symm n2)]; exact hq
    have rF : Fr [cb] w (u7.setCell ⟨b2 + 1, 6, none⟩ (.int .i64 r)) := (hF.trans hX.fr).setCell (.inr (by simp; omega)) _
    have D7 := hide hX.cmp
    have M7 := hide hX.con
    generalize (u7.setCell ⟨b2 + 1, 6, none⟩ (.int .i64 r)) = w8 at r3 r2 rR rF ⊢
    clear k3 k2 hR hF q3 q2 d f hX H7
    rename w8.heap[b2 + 1]? = _ => k3
    rename w8.heap[b2]? = _ => k2
    rename CuAt cb L7 bd7 w8 => hR
    rename Fr [cb] w w8 => hF
    have H8 := hide (cuClkP cb n h8 L7 bd7 (by omega) w8 hR)
    go_wp2_with fail
    refine H8.out.mono ?_
    rintro e u8 ⟨xs, vk, L8, bd8, rfl, hv8, hxl, hxn, hR8, hF8, hO8, l8, hc8, hm8⟩
    have q3 := hF8.blk k3 (by simpa using n2)
    have q2 := hF8.blk k2 (by simpa using n1)
    have hs8 : w8.heap.size ≤ u8.heap.size := hF8.size
    have hlb : b2 + 1 < w8.heap.size := lt_of_heap k3
    have hsW : w.heap.size ≤ w8.heap.size := hF.size
    have d : u8.cell? ⟨b2 + 1, 7, none⟩ = some (.slice none 0 0) := cell_blk q3 7
    have f : u8.frozen? ⟨b2 + 1, 7, none⟩ = false := frozen_blk q3 7
    obtain ⟨av, cv, rfl, -⟩ := hv8.value
    generalize (intRow xs).length = ln at hv8 hO8 ⊢
    go_upto_region 11 with fail
    have r3 : (u8.setCell ⟨b2 + 1, 7, none⟩ (.slice av ln cv)).heap[b2 + 1]? = some (.cells #[.int .i64 o, .int .i64 num, .int .i64 c, .int .i64 0, .int .i64 tc, .int .i64 tk, .int .i64 r, .slice av ln cv] 88) := by rw [set_blk q3]; rfl
    have r2 : (u8.setCell ⟨b2 + 1, 7, none⟩ (.slice av ln cv)).heap[b2]? = some (.cells #[.int .i64 0, .int .i64 0, .int .i64 0, .int .i64 0, .int .i64 0, .int .i64 0, .int .i64 0, .slice none 0 0] 88) := by rw [Below.heap_setCell _ _ _ _ (by simp)]; exact q2
    have rR : CuAt cb L8 bd8 (u8.setCell ⟨b2 + 1, 7, none⟩ (.slice av ln cv)) := by
      have hq := hR8
      unfold CuAt at hq ⊢
      rw [Below.heap_setCell _ _ _ _ (Ne.symm n2)]; exact hq
    have rF : Fr [cb] w (u8.setCell ⟨b2 + 1, 7, none⟩ (.slice av ln cv)) := (hF.trans hF8).setCell (.inr (by simp; omega)) _
    have rv : RowAt 3 1 (.slice av ln cv) (intRow xs) (u8.setCell ⟨b2 + 1, 7, none⟩ (.slice av ln cv)) := hv8.kept (fun g hg => Below.heap_setCell _ _ _ _ (by have := hO8 g hg; show g ≠ b2 + 1; omega))
    generalize (u8.setCell ⟨b2 + 1, 7, none⟩ (.slice av ln cv)) = wA at r3 r2 rR rF rv ⊢
    have D8 := hide hc8
    have M8 := hide hm8
    have HXN := hide hxn
    clear k3 k2 hR hF q3 q2 d f H8 hv8 hR8 hF8 hc8 hxn hm8
    have e0 : wA.cell? ⟨b2 + 1, 0, none⟩ = some (.int .i64 o) := cell_blk r3 0
    have e1 : wA.cell? ⟨b2 + 1, 1, none⟩ = some (.int .i64 num) := cell_blk r3 1
    have e2 : wA.cell? ⟨b2 + 1, 2, none⟩ = some (.int .i64 c) := cell_blk r3 2
    have e3 : wA.cell? ⟨b2 + 1, 3, none⟩ = some (.int .i64 0) := cell_blk r3 3
    have e4 : wA.cell? ⟨b2 + 1, 4, none⟩ = some (.int .i64 tc) := cell_blk r3 4
    have e5 : wA.cell? ⟨b2 + 1, 5, none⟩ = some (.int .i64 tk) := cell_blk r3 5
    have e6 : wA.cell? ⟨b2 + 1, 6, none⟩ = some (.int .i64 r) := cell_blk r3 6
    have e7 : wA.cell? ⟨b2 + 1, 7, none⟩ = some (.slice av ln cv) := cell_blk r3 7
    have d0 : wA.cell? ⟨b2, 0, none⟩ = some (.int .i64 0) := cell_blk r2 0
    have f0 : wA.frozen? ⟨b2, 0, none⟩ = false := frozen_blk r2 0
    have d1 : wA.cell? ⟨b2, 1, none⟩ = some (.int .i64 0) := cell_blk r2 1
    have f1 : wA.frozen? ⟨b2, 1, none⟩ = false := frozen_blk r2 1
    have d2 : wA.cell? ⟨b2, 2, none⟩ = some (.int .i64 0) := cell_blk r2 2
    have f2 : wA.frozen? ⟨b2, 2, none⟩ = false := frozen_blk r2 2
    have d3 : wA.cell? ⟨b2, 3, none⟩ = some (.int .i64 0) := cell_blk r2 3
    have f3 : wA.frozen? ⟨b2, 3, none⟩ = false := frozen_blk r2 3
    have d4 : wA.cell? ⟨b2, 4, none⟩ = some (.int .i64 0) := cell_blk r2 4
    have f4 : wA.frozen? ⟨b2, 4, none⟩ = false := frozen_blk r2 4
    have d5 : wA.cell? ⟨b2, 5, none⟩ = some (.int .i64 0) := cell_blk r2 5
    have f5 : wA.frozen? ⟨b2, 5, none⟩ = false := frozen_blk r2 5
    have d6 : wA.cell? ⟨b2, 6, none⟩ = some (.int .i64 0) := cell_blk r2 6
    have f6 : wA.frozen? ⟨b2, 6, none⟩ = false := frozen_blk r2 6
    have d7 : wA.cell? ⟨b2, 7, none⟩ = some (.slice none 0 0) := cell_blk r2 7
    have f7 : wA.frozen? ⟨b2, 7, none⟩ = false := frozen_blk r2 7
    go_wp2_with fail
    have hF9 : Fr [cb] w ((((((((wA.setCell ⟨b2, 0, none⟩ (.int .i64 o)).setCell ⟨b2, 1, none⟩ (.int .i64 num)).setCell ⟨b2, 2, none⟩ (.int .i64 c)).setCell ⟨b2, 3, none⟩ (.int .i64 0)).setCell ⟨b2, 4, none⟩ (.int .i64 tc)).setCell ⟨b2, 5, none⟩ (.int .i64 tk)).setCell ⟨b2, 6, none⟩ (.int .i64 r)).setCell ⟨b2, 7, none⟩ (.slice av ln cv)) := by
      iterate 8 refine Fr.setCell ?_ (.inr (by simp; omega)) _
      exact rF
    have hR9 : CuAt cb L8 bd8 ((((((((wA.setCell ⟨b2, 0, none⟩ (.int .i64 o)).setCell ⟨b2, 1, none⟩ (.int .i64 num)).setCell ⟨b2, 2, none⟩ (.int .i64 c)).setCell ⟨b2, 3, none⟩ (.int .i64 0)).setCell ⟨b2, 4, none⟩ (.int .i64 tc)).setCell ⟨b2, 5, none⟩ (.int .i64 tk)).setCell ⟨b2, 6, none⟩ (.int .i64 r)).setCell ⟨b2, 7, none⟩ (.slice av ln cv)) := by
      unfold CuAt at rR ⊢
      iterate 8 rw [Below.heap_setCell _ _ _ _ (Ne.symm n1)]
      exact rR
    have hv9 : RowAt 3 1 (.slice av ln cv) (intRow xs) ((((((((wA.setCell ⟨b2, 0, none⟩ (.int .i64 o)).setCell ⟨b2, 1, none⟩ (.int .i64 num)).setCell ⟨b2, 2, none⟩ (.int .i64 c)).setCell ⟨b2, 3, none⟩ (.int .i64 0)).setCell ⟨b2, 4, none⟩ (.int .i64 tc)).setCell ⟨b2, 5, none⟩ (.int .i64 tk)).setCell ⟨b2, 6, none⟩ (.int .i64 r)).setCell ⟨b2, 7, none⟩ (.slice av ln cv)) := rv.kept (fun g hg => by
      have hgn : g ≠ b2 := by have := hO8 g hg; omega
      iterate 8 rw [Below.heap_setCell _ _ _ _ hgn])
    have hk9 : ((((((((wA.setCell ⟨b2, 0, none⟩ (.int .i64 o)).setCell ⟨b2, 1, none⟩ (.int .i64 num)).setCell ⟨b2, 2, none⟩ (.int .i64 c)).setCell ⟨b2, 3, none⟩ (.int .i64 0)).setCell ⟨b2, 4, none⟩ (.int .i64 tc)).setCell ⟨b2, 5, none⟩ (.int .i64 tk)).setCell ⟨b2, 6, none⟩ (.int .i64 r)).setCell ⟨b2, 7, none⟩ (.slice av ln cv)).heap[b2]? = some (.cells #[.int .i64 o, .int .i64 num, .int .i64 c, .int .i64 0, .int .i64 tc, .int .i64 tk, .int .i64 r, .slice av ln cv] 88) := set8_blk r2
    generalize ((((((((wA.setCell ⟨b2, 0, none⟩ (.int .i64 o)).setCell ⟨b2, 1, none⟩ (.int .i64 num)).setCell ⟨b2, 2, none⟩ (.int .i64 c)).setCell ⟨b2, 3, none⟩ (.int .i64 0)).setCell ⟨b2, 4, none⟩ (.int .i64 tc)).setCell ⟨b2, 5, none⟩ (.int .i64 tk)).setCell ⟨b2, 6, none⟩ (.int .i64 r)).setCell ⟨b2, 7, none⟩ (.slice av ln cv)) = w9 at hF9 hR9 hv9 hk9 ⊢
    clear d0 e0 f0 d1 e1 f1 d2 e2 f2 d3 e3 f3 d4 e4 f4 d5 e5 f5 d6 e6 f6 d7 e7 f7
    have d0 : w9.cell? ⟨b2, 0, none⟩ = some (.int .i64 o) := cell_blk hk9 0
    have d1 : w9.cell? ⟨b2, 1, none⟩ = some (.int .i64 num) := cell_blk hk9 1
    have d2 : w9.cell? ⟨b2, 2, none⟩ = some (.int .i64 c) := cell_blk hk9 2
    have d3 : w9.cell? ⟨b2, 3, none⟩ = some (.int .i64 0) := cell_blk hk9 3
    have d4 : w9.cell? ⟨b2, 4, none⟩ = some (.int .i64 tc) := cell_blk hk9 4
    have d5 : w9.cell? ⟨b2, 5, none⟩ = some (.int .i64 tk) := cell_blk hk9 5
    have d6 : w9.cell? ⟨b2, 6, none⟩ = some (.int .i64 r) := cell_blk hk9 6
    have d7 : w9.cell? ⟨b2, 7, none⟩ = some (.slice av ln cv) := cell_blk hk9 7
    exact bodyPost_ret (v := .agg #[.int .i64 o, .int .i64 num, .int .i64 c, .int .i64 0, .int .i64 tc, .int .i64 tk, .int .i64 r, .slice av ln cv]) (by simp [results, Tryz.results98, go_sem, d0, d1, d2, d3, d4, d5, d6, d7]) rfl ⟨o, num, c, 0, tc, tk, r, xs, _, L8, bd8, rfl, hv9, hxl, HXN.out, ⟨i1.out, i2.out, i3.out, i4.out, i5.out, i6.out, i7.out, fun hz => absurd rfl hz⟩, hR9, hF9, fun g hg => by have := hO8 g hg; omega, by omega, opc_cmp D1.out D2.out D3.out D4.out D5.out D6.out h8 (rune_cmp D7.out) D8.out, fun z => by
      have z7 := M8.out z
      have z6 := (M7.out z7).1
      have z5 := (M6.out z6).1
      have z4 := (M5.out z5).1
      have z3 := (M4.out z4).1
      have z2 := (M3.out z3).1
      have z1 := (M2.out z2).1
      have z0 := M1.out z1
      exact ⟨z0.1, by have := z0.2; omega⟩⟩
  · have hkb : (kind == 0) = false := by simp [hk0]
    have H8 := hide (cuClkP cb n h8 L6 bd6 (by omega) w7 hR)
    go_wp2_with fail
    refine H8.out.mono ?_
    rintro e u8 ⟨xs, vk, L8, bd8, rfl, hv8, hxl, hxn, hR8, hF8, hO8, l8, hc8, hm8⟩
    have q3 := hF8.blk k3 (by simpa using n2)
    have q2 := hF8.blk k2 (by simpa using n1)
    have hs8 : w7.heap.size ≤ u8.heap.size := hF8.size
    have hlb : b2 + 1 < w7.heap.size := lt_of_heap k3
    have hsW : w.heap.size ≤ w7.heap.size := hF.size
    have d : u8.cell? ⟨b2 + 1, 7, none⟩ = some (.slice none 0 0) := cell_blk q3 7
    have f : u8.frozen? ⟨b2 + 1, 7, none⟩ = false := frozen_blk q3 7
    obtain ⟨av, cv, rfl, -⟩ := hv8.value
    generalize (intRow xs).length = ln at hv8 hO8 ⊢
    go_upto_region 11 with fail
    have r3 : (u8.setCell ⟨b2 + 1, 7, none⟩ (.slice av ln cv)).heap[b2 + 1]? = some (.cells #[.int .i64 o, .int .i64 num, .int .i64 c, .int .i64 kind, .int .i64 tc, .int .i64 tk, .int .i64 0, .slice av ln cv] 88) := by rw [set_blk q3]; rfl
    have r2 : (u8.setCell ⟨b2 + 1, 7, none⟩ (.slice av ln cv)).heap[b2]? = some (.cells #[.int .i64 0, .int .i64 0, .int .i64 0, .int .i64 0, .int .i64 0, .int .i64 0, .int .i64 0, .slice none 0 0] 88) := by rw [Below.heap_setCell _ _ _ _ (by simp)]; exact q2
    have rR : CuAt cb L8 bd8 (u8.setCell ⟨b2 + 1, 7, none⟩ (.slice av ln cv)) := by
      have hq := hR8
      unfold CuAt at hq ⊢
      rw [Below.heap_setCell _ _ _ _ (Ne.symm n2)]; exact hq
    have rF : Fr [cb] w (u8.setCell ⟨b2 + 1, 7, none⟩ (.slice av ln cv)) := (hF.trans hF8).setCell (.inr (by simp; omega)) _
    have rv : RowAt 3 1 (.slice av ln cv) (intRow xs) (u8.setCell ⟨b2 + 1, 7, none⟩ (.slice av ln cv)) := hv8.kept (fun g hg => Below.heap_setCell _ _ _ _ (by have := hO8 g hg; show g ≠ b2 + 1; omega))
    generalize (u8.setCell ⟨b2 + 1, 7, none⟩ (.slice av ln cv)) = wA at r3 r2 rR rF rv ⊢
    have D8 := hide hc8
    have M8 := hide hm8
    have HXN := hide hxn
    clear k3 k2 hR hF q3 q2 d f H8 hv8 hR8 hF8 hc8 hxn hm8
    have e0 : wA.cell? ⟨b2 + 1, 0, none⟩ = some (.int .i64 o) := cell_blk r3 0
    have e1 : wA.cell? ⟨b2 + 1, 1, none⟩ = some (.int .i64 num) := cell_blk r3 1
    have e2 : wA.cell? ⟨b2 + 1, 2, none⟩ = some (.int .i64 c) := cell_blk r3 2
    have e3 : wA.cell? ⟨b2 + 1, 3, none⟩ = some (.int .i64 kind) := cell_blk r3 3
    have e4 : wA.cell? ⟨b2 + 1, 4, none⟩ = some (.int .i64 tc) := cell_blk r3 4
    have e5 : wA.cell? ⟨b2 + 1, 5, none⟩ = some (.int .i64 tk) := cell_blk r3 5
    have e6 : wA.cell? ⟨b2 + 1, 6, none⟩ = some (.int .i64 0) := cell_blk r3 6
    have e7 : wA.cell? ⟨b2 + 1, 7, none⟩ = some (.slice av ln cv) := cell_blk r3 7
    have d0 : wA.cell? ⟨b2, 0, none⟩ = some (.int .i64 0) := cell_blk r2 0
    have f0 : wA.frozen? ⟨b2, 0, none⟩ = false := frozen_blk r2 0
    have d1 : wA.cell? ⟨b2, 1, none⟩ = some (.int .i64 0) := cell_blk r2 1
    have f1 : wA.frozen? ⟨b2, 1, none⟩ = false := frozen_blk r2 1
    have d2 : wA.cell? ⟨b2, 2, none⟩ = some (.int .i64 0) := cell_blk r2 2
    have f2 : wA.frozen? ⟨b2, 2, none⟩ = false := frozen_blk r2 2
    have d3 : wA.cell? ⟨b2, 3, none⟩ = some (.int .i64 0) := cell_blk r2 3
    have f3 : wA.frozen? ⟨b2, 3, none⟩ = false := frozen_blk r2 3
    have d4 : wA.cell? ⟨b2, 4, none⟩ = some (.int .i64 0) := cell_blk r2 4
    have f4 : wA.frozen? ⟨b2, 4, none⟩ = false := frozen_blk r2 4
    have d5 : wA.cell? ⟨b2, 5, none⟩ = some (.int .i64 0) := cell_blk r2 5
    have f5 : wA.frozen? ⟨b2, 5, none⟩ = false := frozen_blk r2 5
    have d6 : wA.cell? ⟨b2, 6, none⟩ = some (.int .i64 0) := cell_blk r2 6
    have f6 : wA.frozen? ⟨b2, 6, none⟩ = false := frozen_blk r2 6
    have d7 : wA.cell? ⟨b2, 7, none⟩ = some (.slice none 0 0) := cell_blk r2 7
    have f7 : wA.frozen? ⟨b2, 7, none⟩ = false := frozen_blk r2 7
    go_wp2_with fail
    have hF9 : Fr [cb] w ((((((((wA.setCell ⟨b2, 0, none⟩ (.int .i64 o)).setCell ⟨b2, 1, none⟩ (.int .i64 num)).setCell ⟨b2, 2, none⟩ (.int .i64 c)).setCell ⟨b2, 3, none⟩ (.int .i64 kind)).setCell ⟨b2, 4, none⟩ (.int .i64 tc)).setCell ⟨b2, 5, none⟩ (.int .i64 tk)).setCell ⟨b2, 6, none⟩ (.int .i64 0)).setCell ⟨b2, 7, none⟩ (.slice av ln cv)) := by
      iterate 8 refine Fr.setCell ?_ (.inr (by simp; omega)) _
      exact rF
    have hR9 : CuAt cb L8 bd8 ((((((((wA.setCell ⟨b2, 0, none⟩ (.int .i64 o)).setCell ⟨b2, 1, none⟩ (.int .i64 num)).setCell ⟨b2, 2, none⟩ (.int .i64 c)).setCell ⟨b2, 3, none⟩ (.int .i64 kind)).setCell ⟨b2, 4, none⟩ (.int .i64 tc)).setCell ⟨b2, 5, none⟩ (.int .i64 tk)).setCell ⟨b2, 6, none⟩ (.int .i64 0)).setCell ⟨b2, 7, none⟩ (.slice av ln cv)) := by
      unfold CuAt at rR ⊢
      iterate 8 rw [Below.heap_setCell _ _ _ _ (Ne.symm n1)]
      exact rR
    have hv9 : RowAt 3 1 (.slice av ln cv) (intRow xs) ((((((((wA.setCell ⟨b2, 0, none⟩ (.int .i64 o)).setCell ⟨b2, 1, none⟩ (.int .i64 num)).setCell ⟨b2, 2, none⟩ (.int .i64 c)).setCell ⟨b2, 3, none⟩ (.int .i64 kind)).setCell ⟨b2, 4, none⟩ (.int .i64 tc)).setCell ⟨b2, 5, none⟩ (.int .i64 tk)).setCell ⟨b2, 6, none⟩ (.int .i64 0)).setCell ⟨b2, 7, none⟩ (.slice av ln cv)) := rv.kept (fun g hg => by
      have hgn : g ≠ b2 := by have := hO8 g hg; omega
      iterate 8 rw [Below.heap_setCell _ _ _ _ hgn])
    have hk9 : ((((((((wA.setCell ⟨b2, 0, none⟩ (.int .i64 o)).setCell ⟨b2, 1, none⟩ (.int .i64 num)).setCell ⟨b2, 2, none⟩ (.int .i64 c)).setCell ⟨b2, 3, none⟩ (.int .i64 kind)).setCell ⟨b2, 4, none⟩ (.int .i64 tc)).setCell ⟨b2, 5, none⟩ (.int .i64 tk)).setCell ⟨b2, 6, none⟩ (.int .i64 0)).setCell ⟨b2, 7, none⟩ (.slice av ln cv)).heap[b2]? = some (.cells #[.int .i64 o, .int .i64 num, .int .i64 c, .int .i64 kind, .int .i64 tc, .int .i64 tk, .int .i64 0, .slice av ln cv] 88) := set8_blk r2
    generalize ((((((((wA.setCell ⟨b2, 0, none⟩ (.int .i64 o)).setCell ⟨b2, 1, none⟩ (.int .i64 num)).setCell ⟨b2, 2, none⟩ (.int .i64 c)).setCell ⟨b2, 3, none⟩ (.int .i64 kind)).setCell ⟨b2, 4, none⟩ (.int .i64 tc)).setCell ⟨b2, 5, none⟩ (.int .i64 tk)).setCell ⟨b2, 6, none⟩ (.int .i64 0)).setCell ⟨b2, 7, none⟩ (.slice av ln cv)) = w9 at hF9 hR9 hv9 hk9 ⊢
    clear d0 e0 f0 d1 e1 f1 d2 e2 f2 d3 e3 f3 d4 e4 f4 d5 e5 f5 d6 e6 f6 d7 e7 f7
    have d0 : w9.cell? ⟨b2, 0, none⟩ = some (.int .i64 o) := cell_blk hk9 0
    have d1 : w9.cell? ⟨b2, 1, none⟩ = some (.int .i64 num) := cell_blk hk9 1
    have d2 : w9.cell? ⟨b2, 2, none⟩ = some (.int .i64 c) := cell_blk hk9 2
    have d3 : w9.cell? ⟨b2, 3, none⟩ = some (.int .i64 kind) := cell_blk hk9 3
    have d4 : w9.cell? ⟨b2, 4, none⟩ = some (.int .i64 tc) := cell_blk hk9 4
    have d5 : w9.cell? ⟨b2, 5, none⟩ = some (.int .i64 tk) := cell_blk hk9 5
    have d6 : w9.cell? ⟨b2, 6, none⟩ = some (.int .i64 0) := cell_blk hk9 6
    have d7 : w9.cell? ⟨b2, 7, none⟩ = some (.slice av ln cv) := cell_blk hk9 7
    exact bodyPost_ret (v := .agg #[.int .i64 o, .int .i64 num, .int .i64 c, .int .i64 kind, .int .i64 tc, .int .i64 tk, .int .i64 0, .slice av ln cv]) (by simp [results, Tryz.results98, go_sem, d0, d1, d2, d3, d4, d5, d6, d7]) rfl ⟨o, num, c, kind, tc, tk, 0, xs, _, L8, bd8, rfl, hv9, hxl, HXN.out, ⟨i1.out, i2.out, i3.out, i4.out, i5.out, i6.out, ⟨by omega, by omega⟩, fun _ => rfl⟩, hR9, hF9, fun g hg => by have := hO8 g hg; omega, by omega, opc_cmp D1.out D2.out D3.out D4.out D5.out D6.out h8 (no_rune_cmp kind hk0 L6 bd6) D8.out, fun z => by
      have z7 := M8.out z
      have z6 := z7
      have z5 := (M6.out z6).1
      have z4 := (M5.out z5).1
      have z3 := (M4.out z4).1
      have z2 := (M3.out z3).1
      have z1 := (M2.out z2).1
      have z0 := M1.out z1
      exact ⟨z0.1, by have := z0.2; omega⟩⟩

end Go.Proofs.YtachmkhbbbmioaaGreat

namespace Go.Proofs.YtachmkhbbbmioaaGreat
open Go.RowKit Go.Shelf

set_option maxRecDepth 100000 in
set_option maxHeartbeats 1000000 in
theorem mustP (rb n : Nat) (l : List UInt8) (bad b : Bool) (w : World) (h : RdAt rb n l bad w) :
    Calls Tryz.prog 166 #[.pointer (some ⟨rb, 0, none⟩), .bool b] w fun e w' => e = .returned (.tuple #[]) ∧ RdAt rb n l (bad || !b) w' ∧ Fr [rb] w w' := by
  have c2 : w.cell? ⟨rb, 2, none⟩ = some (.bool bad) := cell_blk h 2
  have f2 : w.frozen? ⟨rb, 2, none⟩ = false := frozen_blk h 2
  cases bad with
  | true =>
    go_enter Tryz.func166, Tryz.ntmps166
    go_wp2_with fail
    go_end0
    refine ⟨rfl, ?_, (Fr.refl _ w).setCell (.inl (by simp)) _⟩
    unfold RdAt
    rw [set_blk h]; rfl
  | false =>
    go_enter Tryz.func166, Tryz.ntmps166
    go_wp2_with fail
    go_end0
    refine ⟨rfl, ?_, (Fr.refl _ w).setCell (.inl (by simp)) _⟩
    unfold RdAt
    rw [set_blk h]
    cases b <;> rfl

set_option maxRecDepth 100000 in
set_option maxHeartbeats 4000000 in
theorem varintP (rb n : Nat) (L : List UInt8) (bad : Bool) (hl : L.length ≤ 1000) (w : World) (h : RdAt rb n L bad w) :
    Calls Tryz.prog 168 #[.pointer (some ⟨rb, 0, none⟩)] w fun e w' => e = .returned (.int .i64 (rvar L bad).1) ∧ RdAt rb n (rvar L bad).2.1 (rvar L bad).2.2 w' ∧ Fr [rb] w w' := by
  have c1 : w.cell? ⟨rb, 1, none⟩ = some (str L) := cell_blk h 1
  have hmn : ∀ w, (Builtin.min_ #[3, 3] 3 #[.int .i64 (L.length : Int), .int .i64 9]).run Tryz.prog w = .ok (.int .i64 (min L.length 9 : Nat)) w := fun w => by
    rw [run_min_int2]
    have : (if (9 : Int) < (L.length : Int) then (9 : Int) else (L.length : Int)) = ((min L.length 9 : Nat) : Int) := by split <;> omega
    rw [this]
  generalize hmm : min L.length 9 = m at hmn
  have hM := hide (fun b => mustP rb n L bad b w h)
  go_enter Tryz.func168, Tryz.ntmps168
  go_wp2_with fail
  go_loopg [3, 12] m (fun gk s3 s12 wr => ∃ i : Nat, s12 = .int .i64 i ∧ i ≤ m ∧ gk = m - i ∧ s3 = .int .i64 (vval i L) ∧ goesOn i L ∧ wr = w)
  case atStart => exact ⟨0, rfl, by omega, rfl, rfl, ⟨by omega, by intro j hj; omega⟩, rfl⟩
  case round =>
    obtain ⟨i, rfl, him, hgk, rfl, hgo, hw⟩ := hrel
    rw [hw]
    clear hw wr
    by_cases hlt : i < m
    · have hli : (i : Int) < (m : Int) := by omega
      have hiL : i < L.length := by omega
      obtain ⟨b, hb⟩ : ∃ b, L[i]? = some b := ⟨L[i], by simp [hiL]⟩
      have hx := fun w => sindex L i b hb w
      have hgd : L.getD i 0 = b := by rw [List.getD_eq_getElem?_getD, hb]; rfl
      have hvi := vval_in L i
      have hbl := b.toNat_lt
      have hor := or_above (vval i L) ((b.toNat % 128 : Nat) : Int) i (by omega) hvi (by omega)
      have hvs : vval (i + 1) L = vval i L + ((b.toNat % 128 : Nat) : Int) * 128 ^ i := by rw [vval, hgd]
      have hsh : wrap64 ((b.toNat : Int) % 128 * 2 ^ (7 * i)) = ((b.toNat % 128 : Nat) : Int) * 128 ^ i := by
        have e0 : (2 : Int) ^ (7 * i) = 128 ^ i := by rw [Int.pow_mul]; rfl
        have e1 : (b.toNat : Int) % 128 = ((b.toNat % 128 : Nat) : Int) := by omega
        rw [e0, e1]
        have h1 : (128 : Int) ^ i ≤ 128 ^ 8 := by
          have : (128 : Nat) ^ i ≤ 128 ^ 8 := Nat.pow_le_pow_right (by omega) (by omega)
          exact_mod_cast this
        have h2 : (0 : Int) < 128 ^ i := Int.pow_pos (by omega)
        have h3 : (128 : Int) ^ 8 = 72057594037927936 := by decide
        have h4 : (b.toNat % 128 : Nat) < 128 := Nat.mod_lt _ (by omega)
        generalize (b.toNat % 128 : Nat) = x at h4
        generalize (128 : Int) ^ i = p at h1 h2
        have h5 : (x : Int) * p ≤ 127 * p := Int.mul_le_mul_of_nonneg_right (by omega) (by omega)
        have h6 : (0 : Int) ≤ (x : Int) * p := Int.mul_nonneg (by omega) (by omega)
        unfold wrap64
        omega
      have HST : Hid (bits .or .i64 (vval i L) (wrap64 ((b.toNat : Int) % 128 * 2 ^ (7 * i))) = vval (i + 1) L) := by
        refine hide ?_
        rw [hsh, hor, hvs]
      clear hor hvs hsh
      go_upto_region 7 with fail
      rw [HST.out]
      have hdr := fun w => str_drop L (i + 1) (by omega) w
      have ei : ((i + 1 : Nat) : Int) = (i : Int) + 1 := by omega
      rw [ei] at hdr
      by_cases hb128 : b.toNat < 128
      · have hbi : (b.toNat : Int) < 128 := by omega
        have hvx : vidx 9 L = some i := vidx_at 9 i L (by omega) hiL hgo.2 (by rw [hgd]; exact hb128)
        have hrv : rvar L bad = (vval (i + 1) L, L.drop (i + 1), bad || !(decide (0 < b.toNat) || decide (i = 0))) := by unfold rvar; rw [hvx]; simp only [hgd]
        have HRV := hide hrv
        generalize L.drop (i + 1) = D at hdr HRV
        generalize vval (i + 1) L = V at HRV ⊢
        clear hvx hrv HST hvi hgo hgd hx
        by_cases hbp : 0 < b.toNat
        · have hbpi : (0 : Int) < (b.toNat : Int) := by omega
          go_wp2_with fail
          refine (hM.out true).mono ?_
          rintro e w1 ⟨rfl, hR1, hF1⟩
          have d1 : w1.cell? ⟨rb, 1, none⟩ = some (str L) := cell_blk hR1 1
          have f1 : w1.frozen? ⟨rb, 1, none⟩ = false := frozen_blk hR1 1
          go_wp2_with fail
          go_ret
          rw [HRV.out]
          refine ⟨rfl, ?_, hF1.setCell (.inl (by simp)) _⟩
          unfold RdAt
          rw [set_blk hR1, decide_eq_true hbp]; rfl
        · have hbpi : ¬ (0 : Int) < (b.toNat : Int) := by omega
          by_cases hi0 : i = 0
          · subst hi0
            have hdr0 : ∀ w, (Instr.slice 9 (str L) (some (.int .i64 1)) none none).run Tryz.prog w = .ok (str D) w := fun w => hdr w
            go_wp2_with fail
            refine (hM.out true).mono ?_
            rintro e w1 ⟨rfl, hR1, hF1⟩
            have d1 : w1.cell? ⟨rb, 1, none⟩ = some (str L) := cell_blk hR1 1
            have f1 : w1.frozen? ⟨rb, 1, none⟩ = false := frozen_blk hR1 1
            go_wp2_with fail
            go_ret
            rw [HRV.out]
            refine ⟨rfl, ?_, hF1.setCell (.inl (by simp)) _⟩
            unfold RdAt
            rw [set_blk hR1, decide_eq_false hbp]
            cases bad <;> rfl
          · have hie : ((i : Int) == 0) = false := by simp; omega
            go_wp2_with fail
            refine (hM.out false).mono ?_
            rintro e w1 ⟨rfl, hR1, hF1⟩
            have d1 : w1.cell? ⟨rb, 1, none⟩ = some (str L) := cell_blk hR1 1
            have f1 : w1.frozen? ⟨rb, 1, none⟩ = false := frozen_blk hR1 1
            go_wp2_with fail
            go_ret
            rw [HRV.out]
            refine ⟨rfl, ?_, hF1.setCell (.inl (by simp)) _⟩
            unfold RdAt
            rw [set_blk hR1, decide_eq_false hbp, decide_eq_false hi0]; rfl
      · have hbi : ¬ (b.toNat : Int) < 128 := by omega
        have hgo2 : goesOn (i + 1) L := ⟨by omega, fun j hj => by
          by_cases e : j = i
          · subst e; rw [hgd]; omega
          · exact hgo.2 j (by omega)⟩
        clear HST hvi hgd hx
        go_wp2_with fail
        go_roundg (m - (i + 1))
        case measure => omega
        case rel => exact ⟨i + 1, by go_num, by omega, rfl, rfl, hgo2, rfl⟩
    · obtain rfl : i = m := by omega
      have hvx : vidx 9 L = none := vidx_none 9 L (fun j hj hl => hgo.2 j (by omega))
      have hrv : rvar L bad = (0, L, true) := by unfold rvar; rw [hvx]
      have HRV := hide hrv
      clear hvx hrv
      go_wp2_with fail
      refine (hM.out false).mono ?_
      rintro e w1 ⟨rfl, hR1, hF1⟩
      go_wp2_with fail
      go_ret
      rw [HRV.out]
      refine ⟨rfl, ?_, hF1⟩
      have e : (bad || !false) = true := by cases bad <;> rfl
      rw [e] at hR1
      exact hR1

end Go.Proofs.YtachmkhbbbmioaaGreat

namespace Go.Proofs.YtachmkhbbbmioaaGreat
open Go.RowKit Go.Shelf

/-- What a number's reading gives. -/
structure NumRd (rb n : Nat) (lo hi : Int) (L : List UInt8) (bad : Bool) (v : Int) (L' : List UInt8) (bad' : Bool) (w w' : World) : Prop where
  at' : RdAt rb n L' bad' w'
  fr : Fr [rb] w w'
  dec : Dec vbI (fun v => lo ≤ v ∧ v ≤ hi) L bad v L' bad'
  inn : lo ≤ hi → lo ≤ v ∧ v ≤ hi
  len : L'.length ≤ L.length

set_option maxRecDepth 100000 in
set_option maxHeartbeats 400000 in
theorem numberP (rb n : Nat) (lo hi : Int) (hlo : 0 ≤ lo) (hhi : hi < 9223372036854775808) (L : List UInt8) (bad : Bool) (hl : L.length ≤ 1000) (w : World) (h : RdAt rb n L bad w) :
    Calls Tryz.prog 163 #[.pointer (some ⟨rb, 0, none⟩), .int .i64 lo, .int .i64 hi] w fun e w' => ∃ v L' bad', e = .returned (.int .i64 v) ∧ NumRd rb n lo hi L bad v L' bad' w w' := by
  have hV := hide (varintP rb n L bad hl w h)
  obtain ⟨⟨d1, d2⟩, d3, d4⟩ := rvar_dec L bad
  generalize (rvar L bad).1 = v0 at hV d1 d2 d3
  generalize (rvar L bad).2.1 = L1 at hV d1 d2 d4
  generalize (rvar L bad).2.2 = b1 at hV d1 d2
  have hM := hide (fun (w1 : World) (b : Bool) (h1 : RdAt rb n L1 b1 w1) => mustP rb n L1 b1 b w1 h1)
  have D1 := hide d1
  have D2 := hide d2
  clear d1 d2
  have out : ¬ (lo ≤ v0 ∧ v0 ≤ hi) → ∀ (w2 : World), RdAt rb n L1 true w2 → Fr [rb] w w2 → NumRd rb n lo hi L bad lo L1 true w w2 := fun hn w2 hR hF =>
    ⟨hR, hF, ⟨fun q => (by cases q), fun hb u rest hu hL => by
      obtain ⟨-, e, -⟩ := D2.out hb u rest ⟨by omega, by omega⟩ hL
      exact absurd (e ▸ hu) hn⟩, fun q => ⟨by omega, q⟩, d4⟩
  have OUT := hide out
  clear out
  by_cases c1 : lo ≤ v0
  · by_cases c2 : v0 ≤ hi
    · cases hb : b1 with
      | false =>
        rw [hb] at hV hM
        go_enter Tryz.func163, Tryz.ntmps163
        go_wp2_with fail
        refine hV.out.mono ?_
        rintro e w1 ⟨rfl, hR1, hF1⟩
        go_wp2_with fail
        refine (hM.out w1 true hR1).mono ?_
        rintro e w2 ⟨rfl, hR2, hF2⟩
        have d2 : w2.cell? ⟨rb, 2, none⟩ = some (.bool false) := cell_blk hR2 2
        go_wp2_with fail
        go_ret
        refine ⟨v0, L1, false, rfl, hR2, hF1.trans hF2, ⟨fun _ => ?_, fun q u rest hu hL => ?_⟩, fun _ => ⟨c1, c2⟩, d4⟩
        · obtain ⟨e1, -, e3⟩ := D1.out hb
          exact ⟨e1, ⟨c1, c2⟩, e3⟩
        · obtain ⟨-, e, e2⟩ := D2.out q u rest ⟨by omega, by omega⟩ hL
          exact ⟨rfl, e, e2⟩
      | true =>
        rw [hb] at hV hM
        go_enter Tryz.func163, Tryz.ntmps163
        go_wp2_with fail
        refine hV.out.mono ?_
        rintro e w1 ⟨rfl, hR1, hF1⟩
        go_wp2_with fail
        refine (hM.out w1 true hR1).mono ?_
        rintro e w2 ⟨rfl, hR2, hF2⟩
        have d2 : w2.cell? ⟨rb, 2, none⟩ = some (.bool true) := cell_blk hR2 2
        go_wp2_with fail
        go_ret
        refine ⟨lo, L1, true, rfl, hR2, hF1.trans hF2, ⟨fun q => (by cases q), fun q u rest hu hL => ?_⟩, fun q => ⟨by omega, q⟩, d4⟩
        obtain ⟨e, -, -⟩ := D2.out q u rest ⟨by omega, by omega⟩ hL
        rw [hb] at e; cases e
    · have hd2 : decide (v0 ≤ hi) = false := decide_eq_false c2
      go_enter Tryz.func163, Tryz.ntmps163
      go_wp2_with fail
      refine hV.out.mono ?_
      rintro e w1 ⟨rfl, hR1, hF1⟩
      go_wp2_with fail
      refine (hM.out w1 false hR1).mono ?_
      rintro e w2 ⟨rfl, hR2, hF2⟩
      have hR3 : RdAt rb n L1 true w2 := by simpa using hR2
      have d2 : w2.cell? ⟨rb, 2, none⟩ = some (.bool true) := cell_blk hR3 2
      go_wp2_with fail
      go_ret
      exact ⟨lo, L1, true, rfl, OUT.out (by omega) w2 hR3 (hF1.trans hF2)⟩
  · have hd1 : decide (lo ≤ v0) = false := decide_eq_false c1
    go_enter Tryz.func163, Tryz.ntmps163
    go_wp2_with fail
    refine hV.out.mono ?_
    rintro e w1 ⟨rfl, hR1, hF1⟩
    go_wp2_with fail
    refine (hM.out w1 false hR1).mono ?_
    rintro e w2 ⟨rfl, hR2, hF2⟩
    have hR3 : RdAt rb n L1 true w2 := by simpa using hR2
    have d2 : w2.cell? ⟨rb, 2, none⟩ = some (.bool true) := cell_blk hR3 2
    go_wp2_with fail
    go_ret
    exact ⟨lo, L1, true, rfl, OUT.out (by omega) w2 hR3 (hF1.trans hF2)⟩

set_option maxRecDepth 100000 in
set_option maxHeartbeats 2000000 in
theorem smallP (rb n : Nat) (lo hi : Int) (hlo : 0 ≤ lo) (hhi : hi < 9223372036854775808) (L : List UInt8) (bad : Bool) (hl : L.length ≤ 1000) (w : World) (h : RdAt rb n L bad w) :
    Calls Tryz.prog 151 #[.pointer (some ⟨rb, 0, none⟩), .int .i64 lo, .int .i64 hi] w fun e w' => ∃ v L' bad', e = .returned (.int .i64 v) ∧ NumRd rb n lo hi L bad v L' bad' w w' := by
  have hV := hide (numberP rb n lo hi hlo hhi L bad hl w h)
  go_enter Tryz.func151, Tryz.ntmps151
  go_wp2_with fail
  refine hV.out.mono ?_
  rintro e w1 ⟨v, L', bad', rfl, hN⟩
  go_wp2_with fail
  go_ret
  exact ⟨v, L', bad', rfl, hN⟩

end Go.Proofs.YtachmkhbbbmioaaGreat

namespace Go.Proofs.YtachmkhbbbmioaaGreat
open Go.RowKit Go.Shelf

def upd (q : Nat → Int) (i : Nat) (v : Int) : Nat → Int := fun j => if j = i then v else q j

theorem ckArr_upd (q : Nat → Int) (v : Int) : ∀ i, i < 8 → (ckArr q).setIfInBounds i (.int .i64 v) = ckArr (upd q i v)
  | 0, _ => by simp [ckArr, upd]
  | 1, _ => by simp [ckArr, upd]
  | 2, _ => by simp [ckArr, upd]
  | 3, _ => by simp [ckArr, upd]
  | 4, _ => by simp [ckArr, upd]
  | 5, _ => by simp [ckArr, upd]
  | 6, _ => by simp [ckArr, upd]
  | 7, _ => by simp [ckArr, upd]
  | _ + 8, h => by omega

theorem cEnc_succ (i : Nat) (q : Nat → Int) : cEnc (i + 1) q = cEnc i q ++ vbI (q i) := clk_succ i q
theorem cEnc_congr {i : Nat} {q q' : Nat → Int} (h : ∀ j, j < i → q j = q' j) : cEnc i q = cEnc i q' := by
  unfold cEnc clk
  congr 1
  apply List.map_congr_left
  intro j hj
  exact h j (List.mem_range.1 hj)

theorem clk_dec {i : Nat} {L L1 L2 : List UInt8} {b b1 b2 : Bool} {q : Nat → Int} {v : Int} (hz : ∀ j, i ≤ j → q j = 0) (d1 : Dec (cEnc i) (cOk i) L b q L1 b1) (d2 : Dec vbI (fun v => 0 ≤ v ∧ v ≤ 100) L1 b1 v L2 b2) : Dec (cEnc (i + 1)) (cOk (i + 1)) L b (upd q i v) L2 b2 := by
  refine ⟨fun h => ?_, fun h u rest hu hL => ?_⟩
  · obtain ⟨e2, k2, l2⟩ := d2.1 h
    obtain ⟨e1, k1, l1⟩ := d1.1 e2
    refine ⟨e1, ⟨fun j hj => ?_, fun j hj => ?_⟩, ?_⟩
    · unfold upd
      by_cases e : j = i
      · rw [if_pos e]; exact k2
      · rw [if_neg e]; exact k1.1 j (by omega)
    · unfold upd
      rw [if_neg (by omega)]; exact hz j (by omega)
    · rw [cEnc_succ, l1, l2, show upd q i v i = v from by simp [upd], cEnc_congr (q := upd q i v) (q' := q) (fun j hj => by simp [upd]; omega)]
      simp
  · have hc : cEnc i u = cEnc i (fun j => if j < i then u j else 0) := cEnc_congr (fun j hj => by rw [if_pos hj])
    rw [cEnc_succ, hc, List.append_assoc] at hL
    obtain ⟨e1, v1, m1⟩ := d1.2 h _ _ ⟨fun j hj => by simp only [if_pos hj]; exact hu.1 j (by omega), fun j hj => by simp only [if_neg (show ¬ j < i by omega)]⟩ hL
    obtain ⟨e2, v2, m2⟩ := d2.2 e1 (u i) _ (hu.1 i (by omega)) m1
    refine ⟨e2, ?_, m2⟩
    funext j
    unfold upd
    by_cases e : j = i
    · rw [if_pos e, v2, e]
    · rw [if_neg e, v1]
      by_cases hj : j < i
      · simp only [if_pos hj]
      · simp only [if_neg hj]; exact (hu.2 j (by omega)).symm

set_option maxRecDepth 100000 in
set_option maxHeartbeats 1000000 in
theorem clockP (rb n : Nat) (h8 : n ≤ 8) (L : List UInt8) (bad : Bool) (hl : L.length ≤ 1000) (w : World) (h : RdAt rb n L bad w) :
    Calls Tryz.prog 152 #[.pointer (some ⟨rb, 0, none⟩)] w fun e w' => ∃ q L' bad', e = .returned (.agg (ckArr q)) ∧ RdAt rb n L' bad' w' ∧ Fr [rb] w w' ∧ Dec (cEnc n) (cOk n) L bad q L' bad' ∧ (∀ j, 0 ≤ q j ∧ q j ≤ 100) ∧ L'.length ≤ L.length := by
  have hrlt : rb < w.heap.size := lt_of_heap h
  go_enter Tryz.func152, Tryz.ntmps152
  go_upto_region 2 with fail
  have g1 : w.grownBy ((w.alloc (.cells #[.int .i64 0, .int .i64 0, .int .i64 0, .int .i64 0, .int .i64 0, .int .i64 0, .int .i64 0, .int .i64 0] 134)).alloc (.cells #[.int .i64 0, .int .i64 0, .int .i64 0, .int .i64 0, .int .i64 0, .int .i64 0, .int .i64 0, .int .i64 0] 134)) none := grown_alloc (grown_alloc (grown_refl _) _) _
  have k2 : ((w.alloc (.cells #[.int .i64 0, .int .i64 0, .int .i64 0, .int .i64 0, .int .i64 0, .int .i64 0, .int .i64 0, .int .i64 0] 134)).alloc (.cells #[.int .i64 0, .int .i64 0, .int .i64 0, .int .i64 0, .int .i64 0, .int .i64 0, .int .i64 0, .int .i64 0] 134)).heap[w.heap.size]? = some (.cells #[.int .i64 0, .int .i64 0, .int .i64 0, .int .i64 0, .int .i64 0, .int .i64 0, .int .i64 0, .int .i64 0] 134) := by simp only [heap_alloc_at, World.size_alloc]; simp
  have k3 : ((w.alloc (.cells #[.int .i64 0, .int .i64 0, .int .i64 0, .int .i64 0, .int .i64 0, .int .i64 0, .int .i64 0, .int .i64 0] 134)).alloc (.cells #[.int .i64 0, .int .i64 0, .int .i64 0, .int .i64 0, .int .i64 0, .int .i64 0, .int .i64 0, .int .i64 0] 134)).heap[w.heap.size + 1]? = some (.cells #[.int .i64 0, .int .i64 0, .int .i64 0, .int .i64 0, .int .i64 0, .int .i64 0, .int .i64 0, .int .i64 0] 134) := by simp only [heap_alloc_at, World.size_alloc]; simp
  generalize ((w.alloc (.cells #[.int .i64 0, .int .i64 0, .int .i64 0, .int .i64 0, .int .i64 0, .int .i64 0, .int .i64 0, .int .i64 0] 134)).alloc (.cells #[.int .i64 0, .int .i64 0, .int .i64 0, .int .i64 0, .int .i64 0, .int .i64 0, .int .i64 0, .int .i64 0] 134)) = w1 at g1 k2 k3 ⊢
  have hR1 : RdAt rb n L bad w1 := (g1.block _ hrlt (by simp)).trans h
  have hF1 : Fr [rb] w w1 := Fr.ofGrown g1
  obtain ⟨b2, hb2⟩ : ∃ b, w.heap.size = b := ⟨_, rfl⟩
  rw [hb2] at k2 k3 ⊢
  have n1 : rb ≠ b2 := by omega
  have n2 : rb ≠ b2 + 1 := by omega
  have c0 : w1.cell? ⟨rb, 0, none⟩ = some (.int .i64 n) := cell_blk hR1 0
  have k3' : w1.heap[b2 + 1]? = some (.cells (ckArr (fun _ => 0)) 134) := k3
  have hd0 : Dec (cEnc 0) (cOk 0) L bad (fun _ => 0) L bad := ⟨fun e => ⟨e, ⟨fun j hj => by omega, fun _ _ => rfl⟩, rfl⟩, fun e u rest hu hL => ⟨e, by funext j; exact (hu.2 j (by omega)).symm, by simpa [cEnc, clk, vbs] using hL⟩⟩
  clear h k3 g1
  go_wp2_with fail
  clear c0
  go_loopg [9] n (fun gk s9 wr => ∃ (i : Nat) (q : Nat → Int) (L' : List UInt8) (bad' : Bool), s9 = .int .i64 i ∧ i ≤ n ∧ gk = n - i ∧ RdAt rb n L' bad' wr ∧ wr.heap[b2 + 1]? = some (.cells (ckArr q) 134) ∧ wr.heap[b2]? = some (.cells #[.int .i64 0, .int .i64 0, .int .i64 0, .int .i64 0, .int .i64 0, .int .i64 0, .int .i64 0, .int .i64 0] 134) ∧ Fr [rb] w wr ∧ Dec (cEnc i) (cOk i) L bad q L' bad' ∧ (∀ j, i ≤ j → q j = 0) ∧ (∀ j, 0 ≤ q j ∧ q j ≤ 100) ∧ L'.length ≤ L.length)
  case atStart => exact ⟨0, fun _ => 0, L, bad, rfl, by omega, rfl, hR1, k3', k2, hF1, hd0, fun _ _ => rfl, fun _ => by simp, Nat.le_refl _⟩
  case round =>
    clear hR1 k3' k2 hF1 hd0
    obtain ⟨i, q, L', bad', rfl, hil, hgk, hR, k3, k2, hF, hd, hz, hq, hll⟩ := hrel
    by_cases hlt : i < n
    · have hli : (i : Int) < (n : Int) := by omega
      have HS := hide (smallP rb n 0 100 (by omega) (by omega) L' bad' (by omega) wr hR)
      have hi8 : (i : Int) < 8 := by omega
      go_wp2_with fail
      refine HS.out.mono ?_
      rintro e w2 ⟨v, L2, bad2, rfl, hN⟩
      have hF2 := hN.fr
      have k32 := hF2.blk k3 (by simpa using Ne.symm n2)
      have k22 := hF2.blk k2 (by simpa using Ne.symm n1)
      have d3 : w2.cell? ⟨b2 + 1, i, none⟩ = some (.int .i64 (q i)) := (cell_blk k32 i).trans (ckArr_at _ i (by omega))
      have f3 : w2.frozen? ⟨b2 + 1, i, none⟩ = false := frozen_blk k32 i
      go_wp2_with fail
      go_roundg (n - (i + 1))
      case measure => omega
      case rel =>
        refine ⟨i + 1, upd q i v, L2, bad2, by go_num, by omega, rfl, ?_, ?_, ?_, (hF.trans hF2).setCell (.inr (by simp; omega)) _, clk_dec hz hd hN.dec, fun j hj => ?_, fun j => ?_, Nat.le_trans hN.len hll⟩
        · have hR2 := hN.at'
          unfold RdAt at hR2 ⊢
          rw [Below.heap_setCell _ _ _ _ n2]; exact hR2
        · rw [set_blk k32, ckArr_upd q v i (by omega)]
        · rw [Below.heap_setCell _ _ _ _ (by simp)]; exact k22
        · unfold upd; rw [if_neg (by omega)]; exact hz j (by omega)
        · unfold upd
          split
          · exact hN.inn (by omega)
          · exact hq j
    · obtain rfl : i = n := by omega
      unfold ckArr at k3
      have d0 : wr.cell? ⟨b2 + 1, 0, none⟩ = some (.int .i64 (q 0)) := cell_blk k3 0
      have d1 : wr.cell? ⟨b2 + 1, 1, none⟩ = some (.int .i64 (q 1)) := cell_blk k3 1
      have d2 : wr.cell? ⟨b2 + 1, 2, none⟩ = some (.int .i64 (q 2)) := cell_blk k3 2
      have d3 : wr.cell? ⟨b2 + 1, 3, none⟩ = some (.int .i64 (q 3)) := cell_blk k3 3
      have d4 : wr.cell? ⟨b2 + 1, 4, none⟩ = some (.int .i64 (q 4)) := cell_blk k3 4
      have d5 : wr.cell? ⟨b2 + 1, 5, none⟩ = some (.int .i64 (q 5)) := cell_blk k3 5
      have d6 : wr.cell? ⟨b2 + 1, 6, none⟩ = some (.int .i64 (q 6)) := cell_blk k3 6
      have d7 : wr.cell? ⟨b2 + 1, 7, none⟩ = some (.int .i64 (q 7)) := cell_blk k3 7
      have e0 : wr.cell? ⟨b2, 0, none⟩ = some (.int .i64 0) := cell_blk k2 0
      have f0 : wr.frozen? ⟨b2, 0, none⟩ = false := frozen_blk k2 0
      have e1 : wr.cell? ⟨b2, 1, none⟩ = some (.int .i64 0) := cell_blk k2 1
      have f1 : wr.frozen? ⟨b2, 1, none⟩ = false := frozen_blk k2 1
      have e2 : wr.cell? ⟨b2, 2, none⟩ = some (.int .i64 0) := cell_blk k2 2
      have f2 : wr.frozen? ⟨b2, 2, none⟩ = false := frozen_blk k2 2
      have e3 : wr.cell? ⟨b2, 3, none⟩ = some (.int .i64 0) := cell_blk k2 3
      have f3 : wr.frozen? ⟨b2, 3, none⟩ = false := frozen_blk k2 3
      have e4 : wr.cell? ⟨b2, 4, none⟩ = some (.int .i64 0) := cell_blk k2 4
      have f4 : wr.frozen? ⟨b2, 4, none⟩ = false := frozen_blk k2 4
      have e5 : wr.cell? ⟨b2, 5, none⟩ = some (.int .i64 0) := cell_blk k2 5
      have f5 : wr.frozen? ⟨b2, 5, none⟩ = false := frozen_blk k2 5
      have e6 : wr.cell? ⟨b2, 6, none⟩ = some (.int .i64 0) := cell_blk k2 6
      have f6 : wr.frozen? ⟨b2, 6, none⟩ = false := frozen_blk k2 6
      have e7 : wr.cell? ⟨b2, 7, none⟩ = some (.int .i64 0) := cell_blk k2 7
      have f7 : wr.frozen? ⟨b2, 7, none⟩ = false := frozen_blk k2 7
      go_wp2_with fail
      have hF8 : Fr [rb] w ((((((((wr.setCell ⟨b2, 0, none⟩ (.int .i64 (q 0))).setCell ⟨b2, 1, none⟩ (.int .i64 (q 1))).setCell ⟨b2, 2, none⟩ (.int .i64 (q 2))).setCell ⟨b2, 3, none⟩ (.int .i64 (q 3))).setCell ⟨b2, 4, none⟩ (.int .i64 (q 4))).setCell ⟨b2, 5, none⟩ (.int .i64 (q 5))).setCell ⟨b2, 6, none⟩ (.int .i64 (q 6))).setCell ⟨b2, 7, none⟩ (.int .i64 (q 7))) := by
        iterate 8 refine Fr.setCell ?_ (.inr (by simp; omega)) _
        exact hF
      have hR8 : RdAt rb i L' bad' ((((((((wr.setCell ⟨b2, 0, none⟩ (.int .i64 (q 0))).setCell ⟨b2, 1, none⟩ (.int .i64 (q 1))).setCell ⟨b2, 2, none⟩ (.int .i64 (q 2))).setCell ⟨b2, 3, none⟩ (.int .i64 (q 3))).setCell ⟨b2, 4, none⟩ (.int .i64 (q 4))).setCell ⟨b2, 5, none⟩ (.int .i64 (q 5))).setCell ⟨b2, 6, none⟩ (.int .i64 (q 6))).setCell ⟨b2, 7, none⟩ (.int .i64 (q 7))) := by
        unfold RdAt at hR ⊢
        iterate 8 rw [Below.heap_setCell _ _ _ _ n1]
        exact hR
      have hk8 : ((((((((wr.setCell ⟨b2, 0, none⟩ (.int .i64 (q 0))).setCell ⟨b2, 1, none⟩ (.int .i64 (q 1))).setCell ⟨b2, 2, none⟩ (.int .i64 (q 2))).setCell ⟨b2, 3, none⟩ (.int .i64 (q 3))).setCell ⟨b2, 4, none⟩ (.int .i64 (q 4))).setCell ⟨b2, 5, none⟩ (.int .i64 (q 5))).setCell ⟨b2, 6, none⟩ (.int .i64 (q 6))).setCell ⟨b2, 7, none⟩ (.int .i64 (q 7))).heap[b2]? = some (.cells (ckArr q) 134) := set8_blk k2
      generalize ((((((((wr.setCell ⟨b2, 0, none⟩ (.int .i64 (q 0))).setCell ⟨b2, 1, none⟩ (.int .i64 (q 1))).setCell ⟨b2, 2, none⟩ (.int .i64 (q 2))).setCell ⟨b2, 3, none⟩ (.int .i64 (q 3))).setCell ⟨b2, 4, none⟩ (.int .i64 (q 4))).setCell ⟨b2, 5, none⟩ (.int .i64 (q 5))).setCell ⟨b2, 6, none⟩ (.int .i64 (q 6))).setCell ⟨b2, 7, none⟩ (.int .i64 (q 7))) = w8 at hF8 hR8 hk8 ⊢
      clear d0 d1 d2 d3 d4 d5 d6 d7 e0 e1 e2 e3 e4 e5 e6 e7 f0 f1 f2 f3 f4 f5 f6 f7
      unfold ckArr at hk8
      have d0 : w8.cell? ⟨b2, 0, none⟩ = some (.int .i64 (q 0)) := cell_blk hk8 0
      have d1 : w8.cell? ⟨b2, 1, none⟩ = some (.int .i64 (q 1)) := cell_blk hk8 1
      have d2 : w8.cell? ⟨b2, 2, none⟩ = some (.int .i64 (q 2)) := cell_blk hk8 2
      have d3 : w8.cell? ⟨b2, 3, none⟩ = some (.int .i64 (q 3)) := cell_blk hk8 3
      have d4 : w8.cell? ⟨b2, 4, none⟩ = some (.int .i64 (q 4)) := cell_blk hk8 4
      have d5 : w8.cell? ⟨b2, 5, none⟩ = some (.int .i64 (q 5)) := cell_blk hk8 5
      have d6 : w8.cell? ⟨b2, 6, none⟩ = some (.int .i64 (q 6)) := cell_blk hk8 6
      have d7 : w8.cell? ⟨b2, 7, none⟩ = some (.int .i64 (q 7)) := cell_blk hk8 7
      exact bodyPost_ret (v := .agg (ckArr q)) (by simp [results, Tryz.results152, go_sem, ckArr, d0, d1, d2, d3, d4, d5, d6, d7]) rfl ⟨q, L', bad', rfl, hR8, hF8, hd, hq, hll⟩

theorem sc_valid {r : Int} : Lib.validRune r = true ↔ Sc r := by
  unfold Lib.validRune Sc
  rw [decide_eq_true_iff]
  omega

set_option maxRecDepth 100000 in
set_option maxHeartbeats 800000 in
theorem letterP (rb n : Nat) (L : List UInt8) (bad : Bool) (hl : L.length ≤ 1000) (w : World) (h : RdAt rb n L bad w) :
    Calls Tryz.prog 165 #[.pointer (some ⟨rb, 0, none⟩)] w fun e w' => ∃ r L' bad', e = .returned (.int .i32 r) ∧ RdAt rb n L' bad' w' ∧ Fr [rb] w w' ∧ Dec vbI Sc L bad r L' bad' ∧ (0 ≤ r ∧ r ≤ 1114111) ∧ L'.length ≤ L.length := by
  have HS := hide (smallP rb n 0 1114111 (by omega) (by omega) L bad hl w h)
  go_enter Tryz.func165, Tryz.ntmps165
  go_wp2_with fail
  refine HS.out.mono ?_
  rintro e w1 ⟨r, L1, b1, rfl, hN⟩
  have hr := hN.inn (by omega)
  have hwr : IntKind.i32.wrap r = r := by rw [IntKind.wrap_i32]; omega
  have hV := hide (utf8_ValidRune r w1)
  have hM := hide (mustP rb n L1 b1 (Lib.validRune r) w1 hN.at')
  have hsc := @sc_valid r
  generalize Lib.validRune r = vr at hV hM hsc
  go_wp2_with fail
  refine hV.out.mono ?_
  rintro e w' ⟨rfl, hw⟩
  rw [hw]
  clear hw w'
  go_wp2_with fail
  refine hM.out.mono ?_
  rintro e w2 ⟨rfl, hR2, hF2⟩
  go_wp2_with fail
  go_ret
  refine ⟨r, L1, _, rfl, hR2, hN.fr.trans hF2, ⟨fun q => ?_, fun q u rest hu hL => ?_⟩, hr, hN.len⟩
  · simp only [Bool.or_eq_false_iff, Bool.not_eq_false'] at q
    obtain ⟨e1, -, e3⟩ := hN.dec.1 q.1
    exact ⟨e1, hsc.1 q.2, e3⟩
  · obtain ⟨e1, e2, e3⟩ := hN.dec.2 q u rest ⟨hu.1, hu.2.1⟩ hL
    rw [← e2] at hu
    refine ⟨?_, e2, e3⟩
    rw [e1, hsc.2 hu]; rfl

end Go.Proofs.YtachmkhbbbmioaaGreat

namespace Go.Proofs.YtachmkhbbbmioaaGreat
open Go.RowKit Go.Shelf

theorem set2_blk {w : World} {B : Nat} {e : TypeId} {a0 a1 v0 v1 : Value} (h : w.heap[B]? = some (.cells #[a0, a1] e)) : ((w.setCell ⟨B, 0, none⟩ v0).setCell ⟨B, 1, none⟩ v1).heap[B]? = some (.cells #[v0, v1] e) := by
  have h0 := set_blk h (i := 0) (v := v0)
  refine (set_blk h0 (i := 1) (v := v1)).trans ?_
  simp

theorem tgt_far {n : Nat} {c kind v k : Int} (hv : 0 < v) {L L1 L2 : List UInt8} {b b1 b2 : Bool} (hc : 1 ≤ c) (d1 : Dec vbI (fun v => 0 ≤ v ∧ v ≤ c - 1) L b v L1 b1) (d2 : Dec vbI (fun v => 1 ≤ v ∧ v ≤ (n : Int)) L1 b1 k L2 b2) : Dec tEnc (tOk n c kind) L b (v, k) L2 b2 := by
  refine ⟨fun h => ?_, fun h u rest hu hL => ?_⟩
  · obtain ⟨e2, k2, l2⟩ := d2.1 h
    obtain ⟨e1, k1, l1⟩ := d1.1 e2
    exact ⟨e1, .inr ⟨by show 1 ≤ v; omega, k1.2, k2.1, k2.2⟩, by rw [l1, l2]; simp [tEnc]⟩
  · obtain ⟨u1, u2⟩ := u
    unfold tEnc at hL
    rw [List.append_assoc] at hL
    have hu1 : 0 ≤ u1 ∧ u1 ≤ c - 1 := by rcases hu with ⟨h1, -, -⟩ | ⟨h1, h2, -, -⟩ <;> simp only at * <;> omega
    obtain ⟨e1, v1, m1⟩ := d1.2 h u1 _ hu1 hL
    subst v1
    rcases hu with ⟨h1, -, -⟩ | ⟨-, -, h3, h4⟩
    · simp only at h1; omega
    · obtain ⟨e2, v2, m2⟩ := d2.2 e1 u2 _ ⟨h3, h4⟩ m1
      exact ⟨e2, by rw [v2], m2⟩

theorem tgt_zero {n : Nat} {c kind k : Int} {L L1 L2 : List UInt8} {b b1 b2 : Bool} (hc : 1 ≤ c) (d1 : Dec vbI (fun v => 0 ≤ v ∧ v ≤ c - 1) L b 0 L1 b1) (d2 : Dec vbI (fun v => 0 ≤ v ∧ v ≤ 0) L1 (b1 || !decide (kind = 0)) k L2 b2) : Dec tEnc (tOk n c kind) L b (0, 0) L2 b2 := by
  refine ⟨fun h => ?_, fun h u rest hu hL => ?_⟩
  · obtain ⟨e2, k2, l2⟩ := d2.1 h
    simp only [Bool.or_eq_false_iff, Bool.not_eq_false', decide_eq_true_eq] at e2
    obtain ⟨e1, k1, l1⟩ := d1.1 e2.1
    have hk : k = 0 := by omega
    subst hk
    exact ⟨e1, .inl ⟨rfl, rfl, e2.2⟩, by rw [l1, l2]; simp [tEnc]⟩
  · obtain ⟨u1, u2⟩ := u
    unfold tEnc at hL
    rw [List.append_assoc] at hL
    have hu1 : 0 ≤ u1 ∧ u1 ≤ c - 1 := by rcases hu with ⟨h1, -, -⟩ | ⟨h1, h2, -, -⟩ <;> simp only at * <;> omega
    obtain ⟨e1, v1, m1⟩ := d1.2 h u1 _ hu1 hL
    subst v1
    rcases hu with ⟨-, h2, h3⟩ | ⟨h1, -, -, -⟩
    · simp only at h2
      subst h2
      obtain ⟨e2, v2, m2⟩ := d2.2 (by rw [e1, decide_eq_true h3]; rfl) 0 _ ⟨by omega, by omega⟩ m1
      exact ⟨e2, rfl, m2⟩
    · simp only at h1; omega

set_option maxRecDepth 100000 in
set_option maxHeartbeats 1000000 in
theorem targetP (rb n : Nat) (h1 : 1 ≤ n) (h8 : n ≤ 8) (x : OpR) (hc : 1 ≤ x.c ∧ x.c ≤ 1099511627776) (L : List UInt8) (bad : Bool) (hl : L.length ≤ 1000) (w : World) (h : RdAt rb n L bad w) :
    Calls Tryz.prog 164 #[.pointer (some ⟨rb, 0, none⟩), .agg (opArr x.o x.num x.c x.kind x.tc x.tk x.r x.q)] w fun e w' => ∃ t L' bad', e = .returned (.agg #[.int .i64 t.1, .int .i64 t.2]) ∧ RdAt rb n L' bad' w' ∧ Fr [rb] w w' ∧ Dec tEnc (tOk n x.c x.kind) L bad t L' bad' ∧ (0 ≤ t.1 ∧ t.1 ≤ 1099511627776 ∧ 0 ≤ t.2 ∧ t.2 ≤ 8) ∧ L'.length ≤ L.length := by
  have hrlt : rb < w.heap.size := lt_of_heap h
  have HG : Hid (∀ w1, ((w.alloc (.cells (opArr x.o x.num x.c x.kind x.tc x.tk x.r x.q) 154)).alloc (.cells #[.int .i64 0, .int .i64 0] 152)) = w1 → w.grownBy w1 none ∧ w1.heap[w.heap.size]? = some (.cells (opArr x.o x.num x.c x.kind x.tc x.tk x.r x.q) 154) ∧ w1.heap[w.heap.size + 1]? = some (.cells #[.int .i64 0, .int .i64 0] 152)) := by
    rintro w1 rfl
    refine ⟨grown_alloc (grown_alloc (grown_refl _) _) _, ?_, ?_⟩
    · simp only [heap_alloc_at, World.size_alloc]; simp
    · simp only [heap_alloc_at, World.size_alloc]; simp
  unfold opArr at HG ⊢
  go_enter Tryz.func164, Tryz.ntmps164
  go_upto_region 1 with fail
  generalize hw1 : ((w.alloc (.cells #[.int .i64 x.o, .int .i64 x.num, .int .i64 x.c, .int .i64 x.kind, .int .i64 x.tc, .int .i64 x.tk, .int .i32 x.r, .int .i64 (x.q 0), .int .i64 (x.q 1), .int .i64 (x.q 2), .int .i64 (x.q 3), .int .i64 (x.q 4), .int .i64 (x.q 5), .int .i64 (x.q 6), .int .i64 (x.q 7)] 154)).alloc (.cells #[.int .i64 0, .int .i64 0] 152)) = w1
  obtain ⟨g1, k3, k4⟩ := HG.out w1 hw1
  clear hw1 HG
  have hR1 : RdAt rb n L bad w1 := (g1.block _ hrlt (by simp)).trans h
  have hF1 : Fr [rb] w w1 := Fr.ofGrown g1
  obtain ⟨b3, hb3⟩ : ∃ b, w.heap.size = b := ⟨_, rfl⟩
  rw [hb3] at k3 k4 ⊢
  have n1 : b3 ≠ rb := by omega
  have n2 : b3 + 1 ≠ rb := by omega
  have c2 : w1.cell? ⟨b3, 2, none⟩ = some (.int .i64 x.c) := cell_blk k3 2
  have hwc : IntKind.i64.wrap (x.c - 1) = x.c - 1 := by rw [IntKind.wrap_i64]; omega
  have HN1 := hide (numberP rb n 0 (x.c - 1) (by omega) (by omega) L bad hl w1 hR1)
  clear h g1
  go_wp2_with fail
  refine HN1.out.mono ?_
  rintro e w2 ⟨v, L1, b1, rfl, hN1⟩
  have hv := hN1.inn (by omega)
  have hF2 := hF1.trans hN1.fr
  have k32 := hN1.fr.blk k3 (by simpa using n1)
  have k42 := hN1.fr.blk k4 (by simpa using n2)
  have hl1 := hN1.len
  by_cases hv0 : 0 < v
  · have c0 : w2.cell? ⟨rb, 0, none⟩ = some (.int .i64 n) := cell_blk hN1.at' 0
    have HN2 := hide (smallP rb n 1 n (by omega) (by omega) L1 b1 (by omega) w2 hN1.at')
    go_wp2_with fail
    refine HN2.out.mono ?_
    rintro e w3 ⟨k, L2, b2, rfl, hN2⟩
    have k43 := hN2.fr.blk k42 (by simpa using n2)
    have d0 : w3.cell? ⟨b3 + 1, 0, none⟩ = some (.int .i64 0) := cell_blk k43 0
    have d1 : w3.cell? ⟨b3 + 1, 1, none⟩ = some (.int .i64 0) := cell_blk k43 1
    have f0 : w3.frozen? ⟨b3 + 1, 0, none⟩ = false := frozen_blk k43 0
    have f1 : w3.frozen? ⟨b3 + 1, 1, none⟩ = false := frozen_blk k43 1
    go_wp2_with fail
    have hF8 : Fr [rb] w ((w3.setCell ⟨b3 + 1, 0, none⟩ (.int .i64 v)).setCell ⟨b3 + 1, 1, none⟩ (.int .i64 k)) := by
      iterate 2 refine Fr.setCell ?_ (.inr (by simp; omega)) _
      exact hF2.trans hN2.fr
    have hR8 : RdAt rb n L2 b2 ((w3.setCell ⟨b3 + 1, 0, none⟩ (.int .i64 v)).setCell ⟨b3 + 1, 1, none⟩ (.int .i64 k)) := by
      have hq := hN2.at'
      unfold RdAt at hq ⊢
      iterate 2 rw [Below.heap_setCell _ _ _ _ (Ne.symm n2)]
      exact hq
    have hk8 : ((w3.setCell ⟨b3 + 1, 0, none⟩ (.int .i64 v)).setCell ⟨b3 + 1, 1, none⟩ (.int .i64 k)).heap[b3 + 1]? = some (.cells #[.int .i64 v, .int .i64 k] 152) := set2_blk k43
    generalize ((w3.setCell ⟨b3 + 1, 0, none⟩ (.int .i64 v)).setCell ⟨b3 + 1, 1, none⟩ (.int .i64 k)) = w8 at hF8 hR8 hk8 ⊢
    clear d0 d1 f0 f1
    have d0 : w8.cell? ⟨b3 + 1, 0, none⟩ = some (.int .i64 v) := cell_blk hk8 0
    have d1 : w8.cell? ⟨b3 + 1, 1, none⟩ = some (.int .i64 k) := cell_blk hk8 1
    exact bodyPost_ret (v := .agg #[.int .i64 v, .int .i64 k]) (by simp [results, Tryz.results164, go_sem, d0, d1]) rfl ⟨(v, k), L2, b2, rfl, hR8, hF8, tgt_far hv0 hc.1 hN1.dec hN2.dec, by have hk := hN2.inn (by omega); exact ⟨by show 0 ≤ v; omega, by show v ≤ _; omega, by show 0 ≤ k; omega, by show k ≤ 8; omega⟩, Nat.le_trans hN2.len hl1⟩
  · obtain rfl : v = 0 := by omega
    have c3 : w2.cell? ⟨b3, 3, none⟩ = some (.int .i64 x.kind) := cell_blk k32 3
    have HM := hide (mustP rb n L1 b1 (decide (x.kind = 0)) w2 hN1.at')
    have hke : (x.kind == 0) = decide (x.kind = 0) := by by_cases q : x.kind = 0 <;> simp [q]
    have d12 := hN1.dec
    generalize hkd : decide (x.kind = 0) = kd at HM hke
    have HKD := hide hkd
    clear hkd
    go_wp2_with fail
    refine HM.out.mono ?_
    rintro e w3 ⟨rfl, hR3, hF3⟩
    have k43 := hF3.blk k42 (by simpa using n2)
    have HN2 := hide (smallP rb n 0 0 (by omega) (by omega) L1 (b1 || !kd) (by omega) w3 hR3)
    go_wp2_with fail
    refine HN2.out.mono ?_
    rintro e w4 ⟨k, L2, b2, rfl, hN2⟩
    have k44 := hN2.fr.blk k43 (by simpa using n2)
    have HBg := hide (beginning_any w4)
    go_wp2_with fail
    refine HBg.out.mono ?_
    rintro e w5 ⟨rfl, hw5⟩
    rw [hw5]
    have g5 : w4.grownBy (w4.alloc (.cells #[.int .i64 0, .int .i64 0] 152)) none := grown_alloc (grown_refl _) _
    have k43 := (g5.block _ (lt_of_heap k44) (by simp)).trans k44
    have hR5 : RdAt rb n L2 b2 (w4.alloc (.cells #[.int .i64 0, .int .i64 0] 152)) := (g5.block _ (lt_of_heap hN2.at') (by simp)).trans hN2.at'
    have hF5 : Fr [rb] w (w4.alloc (.cells #[.int .i64 0, .int .i64 0] 152)) := ((hF2.trans hF3).trans hN2.fr).grown g5 (by simp)
    clear hw5 w5
    generalize (w4.alloc (.cells #[.int .i64 0, .int .i64 0] 152)) = w5 at g5 k43 hR5 hF5 ⊢
    have d0 : w5.cell? ⟨b3 + 1, 0, none⟩ = some (.int .i64 0) := cell_blk k43 0
    have d1 : w5.cell? ⟨b3 + 1, 1, none⟩ = some (.int .i64 0) := cell_blk k43 1
    have f0 : w5.frozen? ⟨b3 + 1, 0, none⟩ = false := frozen_blk k43 0
    have f1 : w5.frozen? ⟨b3 + 1, 1, none⟩ = false := frozen_blk k43 1
    go_wp2_with fail
    have hF8 : Fr [rb] w ((w5.setCell ⟨b3 + 1, 0, none⟩ (.int .i64 0)).setCell ⟨b3 + 1, 1, none⟩ (.int .i64 0)) := by
      iterate 2 refine Fr.setCell ?_ (.inr (by simp; omega)) _
      exact hF5
    have hR8 : RdAt rb n L2 b2 ((w5.setCell ⟨b3 + 1, 0, none⟩ (.int .i64 0)).setCell ⟨b3 + 1, 1, none⟩ (.int .i64 0)) := by
      have hq := hR5
      unfold RdAt at hq ⊢
      iterate 2 rw [Below.heap_setCell _ _ _ _ (Ne.symm n2)]
      exact hq
    have hk8 : ((w5.setCell ⟨b3 + 1, 0, none⟩ (.int .i64 0)).setCell ⟨b3 + 1, 1, none⟩ (.int .i64 0)).heap[b3 + 1]? = some (.cells #[.int .i64 0, .int .i64 0] 152) := set2_blk k43
    generalize ((w5.setCell ⟨b3 + 1, 0, none⟩ (.int .i64 0)).setCell ⟨b3 + 1, 1, none⟩ (.int .i64 0)) = w8 at hF8 hR8 hk8 ⊢
    clear d0 d1 f0 f1
    have d0 : w8.cell? ⟨b3 + 1, 0, none⟩ = some (.int .i64 0) := cell_blk hk8 0
    have d1 : w8.cell? ⟨b3 + 1, 1, none⟩ = some (.int .i64 0) := cell_blk hk8 1
    exact bodyPost_ret (v := .agg #[.int .i64 0, .int .i64 0]) (by simp [results, Tryz.results164, go_sem, d0, d1]) rfl ⟨(0, 0), L2, b2, rfl, hR8, hF8, tgt_zero hc.1 d12 (by rw [HKD.out]; exact hN2.dec), by simp, Nat.le_trans hN2.len hl1⟩

end Go.Proofs.YtachmkhbbbmioaaGreat
