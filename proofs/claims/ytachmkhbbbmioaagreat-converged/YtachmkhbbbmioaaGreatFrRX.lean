import Derived.Test.YtachmkhbbbmioaaGreatNetGX
import Derived.Laws.Strings3
import Derived.Test.YtachmkhbbbmioaaGreatBadX
import Derived.Test.YtachmkhbbbmioaaGreatFaceX
namespace Go.Proofs.YtachmkhbbbmioaaGreat
open Go.RowKit Go.Shelf

/-- A reader at block rb: of how many copies, what is left, whether something was wrong. -/
def RdAt (rb n : Nat) (l : List UInt8) (bad : Bool) (w : World) : Prop := w.heap[rb]? = some (.cells #[.int .i64 n, str l, .bool bad] 193)

set_option maxRecDepth 100000 in
set_option maxHeartbeats 1000000 in
theorem mustT (rb n : Nat) (l : List UInt8) (w : World) (h : RdAt rb n l false w) :
    Calls Tryz.prog 166 #[.pointer (some ⟨rb, 0, none⟩), .bool true] w fun e w' => e = .returned (.tuple #[]) ∧ RdAt rb n l false w' ∧ Fr [rb] w w' := by
  have c2 : w.cell? ⟨rb, 2, none⟩ = some (.bool false) := cell_blk h 2
  have f2 : w.frozen? ⟨rb, 2, none⟩ = false := frozen_blk h 2
  go_enter Tryz.func166, Tryz.ntmps166
  go_wp2_with fail
  go_end0
  refine ⟨rfl, ?_, (Fr.refl _ w).setCell (.inl (by simp)) _⟩
  unfold RdAt
  rw [set_blk h]; rfl

theorem str_drop (l : List UInt8) (k : Nat) (hk : k ≤ l.length) (w : World) : (Instr.slice 9 (str l) (some (.int .i64 (k : Int))) none none).run Tryz.prog w = .ok (str (l.drop k)) w := by
  rw [run_slice_string_from_if w 9 ⟨l.toArray⟩ .i64 k Tryz.underlying9]
  rw [if_pos (by simp [ByteArray.size]; omega)]
  simp only [ByteArray.extract_mk, Int.toNat_natCast]
  have : ((l.drop k).take ((⟨l.toArray⟩ : ByteArray).size - k)) = l.drop k := List.take_of_length_le (by simp [ByteArray.size])
  rw [this]

theorem or_zero (x : Int) (h0 : 0 ≤ x) (h1 : x < 128) : bits .or .i64 0 x = x := by
  obtain ⟨k, rfl⟩ := Int.eq_ofNat_of_zero_le h0
  have hk : k < 128 := by omega
  show IntKind.i64.wrap ((BitVec.ofInt 64 0 ||| BitVec.ofInt 64 (k : Int)).toNat : Int) = _
  have e : (BitVec.ofInt 64 0 ||| BitVec.ofInt 64 (k : Int)).toNat = k := by
    rw [BitVec.toNat_or]
    simp
    omega
  rw [e, IntKind.wrap_i64]
  omega

set_option maxRecDepth 100000 in
set_option maxHeartbeats 2000000 in
theorem varintT (rb n : Nat) (b : UInt8) (hb : b.toNat < 128) (L : List UInt8) (hL0 : L[0]? = some b) (hl : L.length ≤ 1000) (w : World) (h : RdAt rb n L false w) :
    Calls Tryz.prog 168 #[.pointer (some ⟨rb, 0, none⟩)] w fun e w' => e = .returned (.int .i64 (b.toNat : Int)) ∧ RdAt rb n (L.drop 1) false w' ∧ Fr [rb] w w' := by
  have c1 : w.cell? ⟨rb, 1, none⟩ = some (str L) := cell_blk h 1
  have hlp : 0 < L.length := (List.getElem?_eq_some_iff.1 hL0).1
  have hmn : ∀ w, (Builtin.min_ #[3, 3] 3 #[.int .i64 (L.length : Int), .int .i64 9]).run Tryz.prog w = .ok (.int .i64 (min (L.length : Int) 9)) w := fun w => by
    rw [run_min_int2]
    have : (if (9 : Int) < (L.length : Int) then (9 : Int) else (L.length : Int)) = min (L.length : Int) 9 := by split <;> omega
    rw [this]
  generalize hmm : min (L.length : Int) 9 = m at hmn
  have hm : 0 < m := by omega
  have hx : ∀ w, (Instr.index 9 (str L) (.int .i64 0)).run Tryz.prog w = .ok (.int .u8 (b.toNat : Int)) w := fun w => sindex L 0 b hL0 w
  have hdr : ∀ w, (Instr.slice 9 (str L) (some (.int .i64 1)) none none).run Tryz.prog w = .ok (str (L.drop 1)) w := fun w => str_drop L 1 (by omega) w
  generalize L.drop 1 = D at hdr ⊢
  have hbi : (b.toNat : Int) < 128 := by omega
  have hb0 : (0 : Int) ≤ (b.toNat : Int) := by omega
  have e1 : (b.toNat : Int) % 128 = (b.toNat : Int) := by omega
  have e2 := or_zero (b.toNat : Int) hb0 hbi
  have hM := hide (mustT rb n L w h)
  clear hmm hL0 hb
  generalize (b.toNat : Int) = x at hx hbi hb0 e1 e2 ⊢
  go_enter Tryz.func168, Tryz.ntmps168
  go_wp2_with fail
  go_loopg [3, 12] 1 (fun _ s3 s12 wr => s3 = .int .i64 0 ∧ s12 = .int .i64 0 ∧ wr = w)
  case atStart => exact ⟨rfl, rfl, rfl⟩
  case round =>
    obtain ⟨rfl, rfl, hw⟩ := hrel
    rw [hw]
    clear hw wr
    by_cases hx0 : 0 < x
    · go_wp2_with fail
      refine hM.out.mono ?_
      rintro e w1 ⟨rfl, hR1, hF1⟩
      have d1 : w1.cell? ⟨rb, 1, none⟩ = some (str L) := cell_blk hR1 1
      have f1 : w1.frozen? ⟨rb, 1, none⟩ = false := frozen_blk hR1 1
      go_wp2_with fail
      go_ret
      refine ⟨rfl, ?_, hF1.setCell (.inl (by simp)) _⟩
      unfold RdAt
      rw [set_blk hR1]; rfl
    · have hx00 : x = 0 := by omega
      subst hx00
      go_wp2_with fail
      refine hM.out.mono ?_
      rintro e w1 ⟨rfl, hR1, hF1⟩
      have d1 : w1.cell? ⟨rb, 1, none⟩ = some (str L) := cell_blk hR1 1
      have f1 : w1.frozen? ⟨rb, 1, none⟩ = false := frozen_blk hR1 1
      go_wp2_with fail
      go_ret
      refine ⟨rfl, ?_, hF1.setCell (.inl (by simp)) _⟩
      unfold RdAt
      rw [set_blk hR1]; rfl

set_option maxRecDepth 100000 in
set_option maxHeartbeats 2000000 in
theorem numberT (rb n : Nat) (lo hi : Int) (b : UInt8) (hb : b.toNat < 128) (h1 : lo ≤ (b.toNat : Int)) (h2 : (b.toNat : Int) ≤ hi) (L : List UInt8) (hL0 : L[0]? = some b) (hl : L.length ≤ 1000) (w : World) (h : RdAt rb n L false w) :
    Calls Tryz.prog 163 #[.pointer (some ⟨rb, 0, none⟩), .int .i64 lo, .int .i64 hi] w fun e w' => e = .returned (.int .i64 (b.toNat : Int)) ∧ RdAt rb n (L.drop 1) false w' ∧ Fr [rb] w w' := by
  have hV := hide (varintT rb n b hb L hL0 hl w h)
  generalize (b.toNat : Int) = x at h1 h2 hV ⊢
  generalize L.drop 1 = D at hV ⊢
  have hM := hide (fun (w1 : World) (h1 : RdAt rb n D false w1) => mustT rb n D w1 h1)
  go_enter Tryz.func163, Tryz.ntmps163
  go_wp2_with fail
  refine hV.out.mono ?_
  rintro e w1 ⟨rfl, hR1, hF1⟩
  go_wp2_with fail
  refine (hM.out w1 hR1).mono ?_
  rintro e w2 ⟨rfl, hR2, hF2⟩
  have d2 : w2.cell? ⟨rb, 2, none⟩ = some (.bool false) := cell_blk hR2 2
  go_wp2_with fail
  go_ret
  exact ⟨rfl, hR2, hF1.trans hF2⟩

set_option maxRecDepth 100000 in
set_option maxHeartbeats 2000000 in
theorem smallT (rb n : Nat) (lo hi : Int) (b : UInt8) (hb : b.toNat < 128) (h1 : lo ≤ (b.toNat : Int)) (h2 : (b.toNat : Int) ≤ hi) (L : List UInt8) (hL0 : L[0]? = some b) (hl : L.length ≤ 1000) (w : World) (h : RdAt rb n L false w) :
    Calls Tryz.prog 151 #[.pointer (some ⟨rb, 0, none⟩), .int .i64 lo, .int .i64 hi] w fun e w' => e = .returned (.int .i64 (b.toNat : Int)) ∧ RdAt rb n (L.drop 1) false w' ∧ Fr [rb] w w' := by
  have hV := hide (numberT rb n lo hi b hb h1 h2 L hL0 hl w h)
  generalize (b.toNat : Int) = x at hV ⊢
  generalize L.drop 1 = D at hV ⊢
  go_enter Tryz.func151, Tryz.ntmps151
  go_wp2_with fail
  refine hV.out.mono ?_
  rintro e w1 ⟨rfl, hR1, hF1⟩
  go_wp2_with fail
  go_ret
  exact ⟨rfl, hR1, hF1⟩

/-- Bytes that are varints of small numbers. -/
def smalls (n : Nat) (q : Nat → Int) : List UInt8 := (List.range n).map fun i => UInt8.ofNat (q i).toNat
theorem smalls_vbs (n : Nat) (q : Nat → Int) (hq : ∀ i, i < n → 0 ≤ q i ∧ q i ≤ 100) : vbs (clk n q) = smalls n q := by
  induction n with
  | zero => rfl
  | succ n ih =>
    have h1 := hq n (by omega)
    rw [clk_succ, ih (fun i hi => hq i (by omega)), vb_small (by omega)]
    unfold smalls
    rw [List.range_succ, List.map_append]; rfl
theorem smalls_len (n : Nat) (q : Nat → Int) : (smalls n q).length = n := by simp [smalls]
theorem smalls_at {n i : Nat} (q : Nat → Int) (h : i < n) : (smalls n q)[i]? = some (UInt8.ofNat (q i).toNat) := by simp [smalls, h]
theorem small_nat {x : Int} (h0 : 0 ≤ x) (h1 : x ≤ 100) : ((UInt8.ofNat x.toNat).toNat : Int) = x := by
  have : (UInt8.ofNat x.toNat).toNat = x.toNat := by simp; omega
  omega

/-- A clock of which the first i numbers are read. -/
def partCk (q : Nat → Int) (i : Nat) : Nat → Int := fun j => if j < i then q j else 0

theorem partCk_set (q : Nat → Int) : ∀ i, i < 8 → (ckArr (partCk q i)).setIfInBounds i (.int .i64 (q i)) = ckArr (partCk q (i + 1))
  | 0, _ => by simp [ckArr, partCk]
  | 1, _ => by simp [ckArr, partCk]
  | 2, _ => by simp [ckArr, partCk]
  | 3, _ => by simp [ckArr, partCk]
  | 4, _ => by simp [ckArr, partCk]
  | 5, _ => by simp [ckArr, partCk]
  | 6, _ => by simp [ckArr, partCk]
  | 7, _ => by simp [ckArr, partCk]
  | _ + 8, h => by omega

set_option maxRecDepth 100000 in
set_option maxHeartbeats 4000000 in
theorem clockT (rb n : Nat) (h8 : n ≤ 8) (q : Nat → Int) (hq : ∀ i, i < n → 0 ≤ q i ∧ q i ≤ 100) (w : World) (h : RdAt rb n (smalls n q) false w) :
    Calls Tryz.prog 152 #[.pointer (some ⟨rb, 0, none⟩)] w fun e w' => e = .returned (.agg (ckArr (partCk q n))) ∧ RdAt rb n [] false w' ∧ Fr [rb] w w' := by
  have hrlt : rb < w.heap.size := lt_of_heap h
  go_enter Tryz.func152, Tryz.ntmps152
  go_upto_region 2 with fail
  have g1 : w.grownBy ((w.alloc (.cells #[.int .i64 0, .int .i64 0, .int .i64 0, .int .i64 0, .int .i64 0, .int .i64 0, .int .i64 0, .int .i64 0] 134)).alloc (.cells #[.int .i64 0, .int .i64 0, .int .i64 0, .int .i64 0, .int .i64 0, .int .i64 0, .int .i64 0, .int .i64 0] 134)) none := grown_alloc (grown_alloc (grown_refl _) _) _
  have k2 : ((w.alloc (.cells #[.int .i64 0, .int .i64 0, .int .i64 0, .int .i64 0, .int .i64 0, .int .i64 0, .int .i64 0, .int .i64 0] 134)).alloc (.cells #[.int .i64 0, .int .i64 0, .int .i64 0, .int .i64 0, .int .i64 0, .int .i64 0, .int .i64 0, .int .i64 0] 134)).heap[w.heap.size]? = some (.cells #[.int .i64 0, .int .i64 0, .int .i64 0, .int .i64 0, .int .i64 0, .int .i64 0, .int .i64 0, .int .i64 0] 134) := by simp only [heap_alloc_at, World.size_alloc]; simp
  have k3 : ((w.alloc (.cells #[.int .i64 0, .int .i64 0, .int .i64 0, .int .i64 0, .int .i64 0, .int .i64 0, .int .i64 0, .int .i64 0] 134)).alloc (.cells #[.int .i64 0, .int .i64 0, .int .i64 0, .int .i64 0, .int .i64 0, .int .i64 0, .int .i64 0, .int .i64 0] 134)).heap[w.heap.size + 1]? = some (.cells #[.int .i64 0, .int .i64 0, .int .i64 0, .int .i64 0, .int .i64 0, .int .i64 0, .int .i64 0, .int .i64 0] 134) := by simp only [heap_alloc_at, World.size_alloc]; simp
  generalize ((w.alloc (.cells #[.int .i64 0, .int .i64 0, .int .i64 0, .int .i64 0, .int .i64 0, .int .i64 0, .int .i64 0, .int .i64 0] 134)).alloc (.cells #[.int .i64 0, .int .i64 0, .int .i64 0, .int .i64 0, .int .i64 0, .int .i64 0, .int .i64 0, .int .i64 0] 134)) = w1 at g1 k2 k3 ⊢
  have hR1 : RdAt rb n (smalls n q) false w1 := (g1.block _ hrlt (by simp)).trans h
  have hF1 : Fr [rb] w w1 := Fr.ofGrown g1
  obtain ⟨b2, hb2⟩ : ∃ b, w.heap.size = b := ⟨_, rfl⟩
  rw [hb2] at k2 k3 ⊢
  have n1 : rb ≠ b2 := by omega
  have n2 : rb ≠ b2 + 1 := by omega
  have c0 : w1.cell? ⟨rb, 0, none⟩ = some (.int .i64 n) := cell_blk hR1 0
  have k3' : w1.heap[b2 + 1]? = some (.cells (ckArr (partCk q 0)) 134) := by rw [k3]; simp [ckArr, partCk]
  clear h k3 g1
  go_wp2_with fail
  clear c0
  go_loopg [9] n (fun gk s9 wr => ∃ (i : Nat), s9 = .int .i64 i ∧ i ≤ n ∧ gk = n - i ∧ RdAt rb n ((smalls n q).drop i) false wr ∧ wr.heap[b2 + 1]? = some (.cells (ckArr (partCk q i)) 134) ∧ wr.heap[b2]? = some (.cells #[.int .i64 0, .int .i64 0, .int .i64 0, .int .i64 0, .int .i64 0, .int .i64 0, .int .i64 0, .int .i64 0] 134) ∧ Fr [rb] w wr)
  case atStart => exact ⟨0, rfl, by omega, rfl, hR1, k3', k2, hF1⟩
  case round =>
    clear hR1 k3' k2 hF1
    obtain ⟨i, rfl, hil, hgk, hR, k3, k2, hF⟩ := hrel
    by_cases hlt : i < n
    · have hli : (i : Int) < (n : Int) := by omega
      have hqi := hq i hlt
      have hnn := small_nat hqi.1 hqi.2
      have HS := hide (smallT rb n 0 100 (UInt8.ofNat (q i).toNat) (by omega) (by omega) (by omega) ((smalls n q).drop i) (by rw [List.getElem?_drop]; exact smalls_at q hlt) (by simp [smalls_len]; omega) wr hR)
      rw [hnn, List.drop_drop] at HS
      have hi8 : (i : Int) < 8 := by omega
      go_wp2_with fail
      refine HS.out.mono ?_
      rintro e w2 ⟨rfl, hR2, hF2⟩
      have k32 := hF2.blk k3 (by simpa using Ne.symm n2)
      have k22 := hF2.blk k2 (by simpa using Ne.symm n1)
      have d3 : w2.cell? ⟨b2 + 1, i, none⟩ = some (.int .i64 (partCk q i i)) := (cell_blk k32 i).trans (ckArr_at _ i (by omega))
      have f3 : w2.frozen? ⟨b2 + 1, i, none⟩ = false := frozen_blk k32 i
      go_wp2_with fail
      go_roundg (n - (i + 1))
      case measure => omega
      case rel =>
        refine ⟨i + 1, by go_num, by omega, rfl, ?_, ?_, ?_, (hF.trans hF2).setCell (.inr (by simp; omega)) _⟩
        · unfold RdAt at hR2 ⊢
          rw [Below.heap_setCell _ _ _ _ n2]; exact hR2
        · rw [set_blk k32, partCk_set q i (by omega)]
        · rw [Below.heap_setCell _ _ _ _ (by simp)]; exact k22
    · obtain rfl : i = n := by omega
      rw [List.drop_of_length_le (by rw [smalls_len]; omega)] at hR
      unfold ckArr at k3
      have d0 : wr.cell? ⟨b2 + 1, 0, none⟩ = some (.int .i64 (partCk q i 0)) := cell_blk k3 0
      have d1 : wr.cell? ⟨b2 + 1, 1, none⟩ = some (.int .i64 (partCk q i 1)) := cell_blk k3 1
      have d2 : wr.cell? ⟨b2 + 1, 2, none⟩ = some (.int .i64 (partCk q i 2)) := cell_blk k3 2
      have d3 : wr.cell? ⟨b2 + 1, 3, none⟩ = some (.int .i64 (partCk q i 3)) := cell_blk k3 3
      have d4 : wr.cell? ⟨b2 + 1, 4, none⟩ = some (.int .i64 (partCk q i 4)) := cell_blk k3 4
      have d5 : wr.cell? ⟨b2 + 1, 5, none⟩ = some (.int .i64 (partCk q i 5)) := cell_blk k3 5
      have d6 : wr.cell? ⟨b2 + 1, 6, none⟩ = some (.int .i64 (partCk q i 6)) := cell_blk k3 6
      have d7 : wr.cell? ⟨b2 + 1, 7, none⟩ = some (.int .i64 (partCk q i 7)) := cell_blk k3 7
      have e0 : wr.cell? ⟨b2, 0, none⟩ = some (.int .i64 0) := cell_blk k2 0
      have f0 : wr.frozen? ⟨b2, 0, none⟩ = false := frozen_blk k2 0
      have e1 : wr.cell? ⟨b2, 1, none⟩ = some (.int .i64 0) := cell_blk k2 1
      have f1 : wr.frozen? ⟨b2, 1, none⟩ = false := frozen_blk k2 1
      have e2 : wr.cell? ⟨b2, 2, none⟩ = some (.int .i64 0) := cell_blk k2 2
      have f2 : wr.frozen? ⟨b2, 2, none⟩ = false := frozen_blk k2 2
      have e3 : wr.cell? ⟨b2, 3, none⟩ = some (.int .i64 0) := cell_blk k2 3
      have f3 : wr.frozen? ⟨b2, 3, none⟩ = false := frozen_blk k2 3
      have e4 : wr.cell? ⟨b2, 4, none⟩ = some (.int .i64 0) := cell_blk k2 4
      have f4 : wr.frozen? ⟨b2, 4, none⟩ = false := frozen_blk k2 4
      have e5 : wr.cell? ⟨b2, 5, none⟩ = some (.int .i64 0) := cell_blk k2 5
      have f5 : wr.frozen? ⟨b2, 5, none⟩ = false := frozen_blk k2 5
      have e6 : wr.cell? ⟨b2, 6, none⟩ = some (.int .i64 0) := cell_blk k2 6
      have f6 : wr.frozen? ⟨b2, 6, none⟩ = false := frozen_blk k2 6
      have e7 : wr.cell? ⟨b2, 7, none⟩ = some (.int .i64 0) := cell_blk k2 7
      have f7 : wr.frozen? ⟨b2, 7, none⟩ = false := frozen_blk k2 7
      go_wp2_with fail
      have hF8 : Fr [rb] w ((((((((wr.setCell ⟨b2, 0, none⟩ (.int .i64 (partCk q i 0))).setCell ⟨b2, 1, none⟩ (.int .i64 (partCk q i 1))).setCell ⟨b2, 2, none⟩ (.int .i64 (partCk q i 2))).setCell ⟨b2, 3, none⟩ (.int .i64 (partCk q i 3))).setCell ⟨b2, 4, none⟩ (.int .i64 (partCk q i 4))).setCell ⟨b2, 5, none⟩ (.int .i64 (partCk q i 5))).setCell ⟨b2, 6, none⟩ (.int .i64 (partCk q i 6))).setCell ⟨b2, 7, none⟩ (.int .i64 (partCk q i 7))) := by
        iterate 8 refine Fr.setCell ?_ (.inr (by simp; omega)) _
        exact hF
      have hR8 : RdAt rb i [] false ((((((((wr.setCell ⟨b2, 0, none⟩ (.int .i64 (partCk q i 0))).setCell ⟨b2, 1, none⟩ (.int .i64 (partCk q i 1))).setCell ⟨b2, 2, none⟩ (.int .i64 (partCk q i 2))).setCell ⟨b2, 3, none⟩ (.int .i64 (partCk q i 3))).setCell ⟨b2, 4, none⟩ (.int .i64 (partCk q i 4))).setCell ⟨b2, 5, none⟩ (.int .i64 (partCk q i 5))).setCell ⟨b2, 6, none⟩ (.int .i64 (partCk q i 6))).setCell ⟨b2, 7, none⟩ (.int .i64 (partCk q i 7))) := by
        unfold RdAt at hR ⊢
        iterate 8 rw [Below.heap_setCell _ _ _ _ n1]
        exact hR
      have hk8 : ((((((((wr.setCell ⟨b2, 0, none⟩ (.int .i64 (partCk q i 0))).setCell ⟨b2, 1, none⟩ (.int .i64 (partCk q i 1))).setCell ⟨b2, 2, none⟩ (.int .i64 (partCk q i 2))).setCell ⟨b2, 3, none⟩ (.int .i64 (partCk q i 3))).setCell ⟨b2, 4, none⟩ (.int .i64 (partCk q i 4))).setCell ⟨b2, 5, none⟩ (.int .i64 (partCk q i 5))).setCell ⟨b2, 6, none⟩ (.int .i64 (partCk q i 6))).setCell ⟨b2, 7, none⟩ (.int .i64 (partCk q i 7))).heap[b2]? = some (.cells (ckArr (partCk q i)) 134) := set8_blk k2
      generalize ((((((((wr.setCell ⟨b2, 0, none⟩ (.int .i64 (partCk q i 0))).setCell ⟨b2, 1, none⟩ (.int .i64 (partCk q i 1))).setCell ⟨b2, 2, none⟩ (.int .i64 (partCk q i 2))).setCell ⟨b2, 3, none⟩ (.int .i64 (partCk q i 3))).setCell ⟨b2, 4, none⟩ (.int .i64 (partCk q i 4))).setCell ⟨b2, 5, none⟩ (.int .i64 (partCk q i 5))).setCell ⟨b2, 6, none⟩ (.int .i64 (partCk q i 6))).setCell ⟨b2, 7, none⟩ (.int .i64 (partCk q i 7))) = w8 at hF8 hR8 hk8 ⊢
      clear d0 d1 d2 d3 d4 d5 d6 d7 e0 e1 e2 e3 e4 e5 e6 e7 f0 f1 f2 f3 f4 f5 f6 f7
      unfold ckArr at hk8
      have d0 : w8.cell? ⟨b2, 0, none⟩ = some (.int .i64 (partCk q i 0)) := cell_blk hk8 0
      have d1 : w8.cell? ⟨b2, 1, none⟩ = some (.int .i64 (partCk q i 1)) := cell_blk hk8 1
      have d2 : w8.cell? ⟨b2, 2, none⟩ = some (.int .i64 (partCk q i 2)) := cell_blk hk8 2
      have d3 : w8.cell? ⟨b2, 3, none⟩ = some (.int .i64 (partCk q i 3)) := cell_blk hk8 3
      have d4 : w8.cell? ⟨b2, 4, none⟩ = some (.int .i64 (partCk q i 4)) := cell_blk hk8 4
      have d5 : w8.cell? ⟨b2, 5, none⟩ = some (.int .i64 (partCk q i 5)) := cell_blk hk8 5
      have d6 : w8.cell? ⟨b2, 6, none⟩ = some (.int .i64 (partCk q i 6)) := cell_blk hk8 6
      have d7 : w8.cell? ⟨b2, 7, none⟩ = some (.int .i64 (partCk q i 7)) := cell_blk hk8 7
      refine bodyPost_ret (v := .agg (ckArr (partCk q i))) (by simp [results, Tryz.results152, go_sem, ckArr, d0, d1, d2, d3, d4, d5, d6, d7]) rfl ⟨rfl, hR8, hF8⟩

end Go.Proofs.YtachmkhbbbmioaaGreat

namespace Go.Proofs.YtachmkhbbbmioaaGreat
open Go.RowKit Go.Shelf

/-- The bytes of a string, in new memory. -/
theorem str_bytes (l : List UInt8) (w : World) : ∃ c w', (convert 9 69 (str l)).run Tryz.prog w = .ok (.slice (some ⟨w.heap.size, 0, none⟩) l.length c) w' ∧ w.grownBy w' none ∧ w.heap.size < w'.heap.size ∧
    (∀ j b, l[j]? = some b → w'.cell? ⟨w.heap.size, j, none⟩ = some (.int .u8 (b.toNat : Int))) ∧ (l.length + 4 ≤ c → ∀ j, j < 4 → (w'.cell? ⟨w.heap.size, l.length + j, none⟩).isSome = true ∧ w'.frozen? ⟨w.heap.size, l.length + j, none⟩ = false) := by
  have hr := run_bytes_of_string (P := Tryz.prog) w 9 69 5 ⟨l.toArray⟩ Tryz.underlying9 Tryz.underlying69 Tryz.underlying5
  have hsz : (⟨l.toArray⟩ : ByteArray).size = l.length := by simp [ByteArray.size]
  rw [hsz] at hr
  generalize grownCap w l.length 0 5 = c at hr
  have hbs : (bytesRow ⟨l.toArray⟩ c).size = l.length + (c - l.length) := by simp [bytesRow, ByteArray.size]
  have hg : w.grownBy (w.drew.alloc (.cells (bytesRow ⟨l.toArray⟩ c) 5 ((bytesRow ⟨l.toArray⟩ c).size, (bytesRow ⟨l.toArray⟩ c).size + 1))) none := grown_trans (grown_drew (grown_refl w)) (grown_alloc (grown_refl w.drew) _)
  refine ⟨c, _, hr, hg, by simp, fun j b hj => ?_, fun h4 j hj => ⟨?_, ?_⟩⟩
  · rw [show w.heap.size = w.drew.heap.size from rfl, World.cell?_alloc_mark]
    obtain ⟨h1, h2⟩ := List.getElem?_eq_some_iff.1 hj
    rw [bytesRow_at _ c j (by simpa using h1)]
    simp [h2]
  · rw [show w.heap.size = w.drew.heap.size from rfl, World.cell?_alloc_mark, Array.getElem?_eq_getElem (by omega)]; rfl
  · rw [show w.heap.size = w.drew.heap.size from rfl, World.frozen?_alloc_mark]
    have : ¬ (bytesRow ⟨l.toArray⟩ c).size ≤ l.length + j := by omega
    simp [this]

theorem str_take (l : List UInt8) (k : Nat) (hk : k ≤ l.length) (w : World) : (Instr.slice 9 (str l) none (some (.int .i64 (k : Int))) none).run Tryz.prog w = .ok (str (l.take k)) w := by
  rw [run_slice_string_to_if w 9 ⟨l.toArray⟩ .i64 k Tryz.underlying9]
  rw [if_pos (by simp [ByteArray.size]; omega)]
  simp only [ByteArray.extract_mk, Int.toNat_natCast, List.drop_zero, Nat.sub_zero]

set_option maxRecDepth 100000 in
set_option maxHeartbeats 2000000 in
theorem unsealT (m : List UInt8) (hm : m.length ≤ 116) (w : World) :
    Calls Tryz.prog 125 #[str (sealB m)] w fun e w' => e = .returned (.tuple #[str m, .bool true]) ∧ w.grownBy w' none := by
  obtain ⟨c, w1, hcv, g1, hlt, hc, hsp⟩ := str_bytes m w
  have HS := hide (sealP w.heap.size c m (by omega) w1 hc hlt hsp)
  have htk : ∀ w, (Instr.slice 9 (str (sealB m)) none (some (.int .i64 (m.length : Int))) none).run Tryz.prog w = .ok (str m) w := fun w => by
    have := str_take (sealB m) m.length (by rw [seal_len]; omega) w
    rw [this]
    congr 3
    unfold sealB
    rw [List.take_left]
  have hl := seal_len m
  generalize sealB m = D at htk hl HS ⊢
  have hDl : (D.length : Int) = (m.length : Int) + 4 := by omega
  have hw1 : IntKind.i64.wrap ((m.length : Int) + 4 - 4) = (m.length : Int) := by rw [IntKind.wrap_i64]; omega
  have hd1 : ¬ (120 : Int) < (m.length : Int) + 4 := by omega
  have hd2 : ¬ ((m.length : Int) + 4) < 4 := by omega
  have hDD : (D == D) = true := by simp
  clear hc hsp
  generalize m.length = ml at hl hDl hw1 hd1 hd2 htk hcv HS hm
  go_enter Tryz.func125, Tryz.ntmps125
  go_wp2_with fail
  refine HS.out.mono ?_
  rintro e w2 ⟨rfl, hF2⟩
  go_wp2_with fail
  exact bodyPost_ret (v := .tuple #[str m, .bool true]) (by simp [results, Tryz.results125, go_sem]) rfl ⟨rfl, ((Fr.ofGrown g1 : Fr [] w w1).after hF2 (fun x hx => .inr (by simp at hx; omega))).toGrown⟩

theorem set11_blk {w : World} {B : Nat} {e : TypeId} {a0 a1 a2 a3 a4 a5 a6 a7 a8 a9 a10 v0 v1 v2 v3 v4 v5 v6 v7 v8 v9 v10 : Value} (h : w.heap[B]? = some (.cells #[a0, a1, a2, a3, a4, a5, a6, a7, a8, a9, a10] e)) : (((((((((((w.setCell ⟨B, 0, none⟩ v0).setCell ⟨B, 1, none⟩ v1).setCell ⟨B, 2, none⟩ v2).setCell ⟨B, 3, none⟩ v3).setCell ⟨B, 4, none⟩ v4).setCell ⟨B, 5, none⟩ v5).setCell ⟨B, 6, none⟩ v6).setCell ⟨B, 7, none⟩ v7).setCell ⟨B, 8, none⟩ v8).setCell ⟨B, 9, none⟩ v9).setCell ⟨B, 10, none⟩ v10).heap[B]? = some (.cells #[v0, v1, v2, v3, v4, v5, v6, v7, v8, v9, v10] e) := by
  have h0 := set_blk (i := 0) (v := v0) h
  have h1 := set_blk (i := 1) (v := v1) h0
  have h2 := set_blk (i := 2) (v := v2) h1
  have h3 := set_blk (i := 3) (v := v3) h2
  have h4 := set_blk (i := 4) (v := v4) h3
  have h5 := set_blk (i := 5) (v := v5) h4
  have h6 := set_blk (i := 6) (v := v6) h5
  have h7 := set_blk (i := 7) (v := v7) h6
  have h8 := set_blk (i := 8) (v := v8) h7
  have h9 := set_blk (i := 9) (v := v9) h8
  have h10 := set_blk (i := 10) (v := v10) h9
  refine h10.trans ?_
  simp

/-- A frame's cells. -/
def frArr (k s : Int) (q : Nat → Int) (v : Value) : Array Value := #[.int .i64 k, .int .i64 s, .int .i64 (q 0), .int .i64 (q 1), .int .i64 (q 2), .int .i64 (q 3), .int .i64 (q 4), .int .i64 (q 5), .int .i64 (q 6), .int .i64 (q 7), v]

set_option maxRecDepth 100000 in
set_option maxHeartbeats 2000000 in
theorem digestT (rb n : Nat) (h8 : n ≤ 8) (s : Int) (hs1 : 1 ≤ s) (hsn : s ≤ n) (q : Nat → Int) (hq : ∀ i, i < n → 0 ≤ q i ∧ q i ≤ 100) (w : World) (h : RdAt rb n (vbs (s :: clk n q)) false w) :
    Calls Tryz.prog 126 #[.pointer (some ⟨rb, 0, none⟩)] w fun e w' => e = .returned (.agg (frArr 0 s (partCk q n) (.slice none 0 0))) ∧ RdAt rb n [] false w' ∧ Fr [rb] w w' := by
  have hrlt : rb < w.heap.size := lt_of_heap h
  have hvb : vbs (s :: clk n q) = UInt8.ofNat s.toNat :: smalls n q := by
    rw [show vbs (s :: clk n q) = vb s.toNat ++ vbs (clk n q) from rfl, smalls_vbs n q hq, vb_small (by omega)]; rfl
  rw [hvb] at h
  have hnn := small_nat (x := s) (by omega) (by omega)
  have hsl := smalls_len n q
  have hSm := fun (w1 : World) (h1 : RdAt rb n (UInt8.ofNat s.toNat :: smalls n q) false w1) => smallT rb n 1 n (UInt8.ofNat s.toNat) (by omega) (by omega) (by omega) (UInt8.ofNat s.toNat :: smalls n q) rfl (by simp; omega) w1 h1
  rw [hnn] at hSm
  simp only [List.drop_succ_cons, List.drop_zero] at hSm
  have hCk := fun (w1 : World) (h1 : RdAt rb n (smalls n q) false w1) => clockT rb n h8 q hq w1 h1
  generalize UInt8.ofNat s.toNat :: smalls n q = L0 at hSm h
  generalize smalls n q = L1 at hSm hCk hsl
  unfold ckArr at hCk
  have HSm := hide hSm
  have HCk := hide hCk
  clear hSm hCk hvb hnn hq hsl
  go_enter Tryz.func126, Tryz.ntmps126
  go_upto_region 1 with fail
  have g1 : w.grownBy (w.alloc (.cells #[.int .i64 0, .int .i64 0, .int .i64 0, .int .i64 0, .int .i64 0, .int .i64 0, .int .i64 0, .int .i64 0, .int .i64 0, .int .i64 0, .slice none 0 0] 143)) none := grown_alloc (grown_refl _) _
  have k1 : (w.alloc (.cells #[.int .i64 0, .int .i64 0, .int .i64 0, .int .i64 0, .int .i64 0, .int .i64 0, .int .i64 0, .int .i64 0, .int .i64 0, .int .i64 0, .slice none 0 0] 143)).heap[w.heap.size]? = some (.cells #[.int .i64 0, .int .i64 0, .int .i64 0, .int .i64 0, .int .i64 0, .int .i64 0, .int .i64 0, .int .i64 0, .int .i64 0, .int .i64 0, .slice none 0 0] 143) := by rw [heap_alloc_at]; simp
  generalize (w.alloc (.cells #[.int .i64 0, .int .i64 0, .int .i64 0, .int .i64 0, .int .i64 0, .int .i64 0, .int .i64 0, .int .i64 0, .int .i64 0, .int .i64 0, .slice none 0 0] 143)) = w1 at g1 k1 ⊢
  have hR1 : RdAt rb n L0 false w1 := (g1.block _ hrlt (by simp)).trans h
  have hF1 : Fr [rb] w w1 := Fr.ofGrown g1
  obtain ⟨b2, hb2⟩ : ∃ b, w.heap.size = b := ⟨_, rfl⟩
  rw [hb2] at k1 ⊢
  have n1 : rb ≠ b2 := by omega
  have c0 : w1.cell? ⟨rb, 0, none⟩ = some (.int .i64 n) := cell_blk hR1 0
  clear h g1
  go_wp2_with fail
  refine (HSm.out w1 hR1).mono ?_
  rintro e w2 ⟨rfl, hR2, hF2⟩
  go_wp2_with fail
  refine (HCk.out w2 hR2).mono ?_
  rintro e w3 ⟨rfl, hR3, hF3⟩
  have k3 := hF3.blk (hF2.blk k1 (by simpa using Ne.symm n1)) (by simpa using Ne.symm n1)
  have hF := (hF1.trans hF2).trans hF3
  clear c0 k1 hF1 hF2 hF3 hR1 hR2
  have d0 : w3.cell? ⟨b2, 0, none⟩ = some (.int .i64 0) := cell_blk k3 0
  have f0 : w3.frozen? ⟨b2, 0, none⟩ = false := frozen_blk k3 0
  have d1 : w3.cell? ⟨b2, 1, none⟩ = some (.int .i64 0) := cell_blk k3 1
  have f1 : w3.frozen? ⟨b2, 1, none⟩ = false := frozen_blk k3 1
  have d2 : w3.cell? ⟨b2, 2, none⟩ = some (.int .i64 0) := cell_blk k3 2
  have f2 : w3.frozen? ⟨b2, 2, none⟩ = false := frozen_blk k3 2
  have d3 : w3.cell? ⟨b2, 3, none⟩ = some (.int .i64 0) := cell_blk k3 3
  have f3 : w3.frozen? ⟨b2, 3, none⟩ = false := frozen_blk k3 3
  have d4 : w3.cell? ⟨b2, 4, none⟩ = some (.int .i64 0) := cell_blk k3 4
  have f4 : w3.frozen? ⟨b2, 4, none⟩ = false := frozen_blk k3 4
  have d5 : w3.cell? ⟨b2, 5, none⟩ = some (.int .i64 0) := cell_blk k3 5
  have f5 : w3.frozen? ⟨b2, 5, none⟩ = false := frozen_blk k3 5
  have d6 : w3.cell? ⟨b2, 6, none⟩ = some (.int .i64 0) := cell_blk k3 6
  have f6 : w3.frozen? ⟨b2, 6, none⟩ = false := frozen_blk k3 6
  have d7 : w3.cell? ⟨b2, 7, none⟩ = some (.int .i64 0) := cell_blk k3 7
  have f7 : w3.frozen? ⟨b2, 7, none⟩ = false := frozen_blk k3 7
  have d8 : w3.cell? ⟨b2, 8, none⟩ = some (.int .i64 0) := cell_blk k3 8
  have f8 : w3.frozen? ⟨b2, 8, none⟩ = false := frozen_blk k3 8
  have d9 : w3.cell? ⟨b2, 9, none⟩ = some (.int .i64 0) := cell_blk k3 9
  have f9 : w3.frozen? ⟨b2, 9, none⟩ = false := frozen_blk k3 9
  have d10 : w3.cell? ⟨b2, 10, none⟩ = some (.slice none 0 0) := cell_blk k3 10
  have f10 : w3.frozen? ⟨b2, 10, none⟩ = false := frozen_blk k3 10
  generalize hqq : partCk q n = qq
  have HQ := hide hqq
  clear hqq
  go_wp2_with fail
  have hF8 : Fr [rb] w (((((((((((w3.setCell ⟨b2, 0, none⟩ (.int .i64 0)).setCell ⟨b2, 1, none⟩ (.int .i64 s)).setCell ⟨b2, 2, none⟩ (.int .i64 (qq 0))).setCell ⟨b2, 3, none⟩ (.int .i64 (qq 1))).setCell ⟨b2, 4, none⟩ (.int .i64 (qq 2))).setCell ⟨b2, 5, none⟩ (.int .i64 (qq 3))).setCell ⟨b2, 6, none⟩ (.int .i64 (qq 4))).setCell ⟨b2, 7, none⟩ (.int .i64 (qq 5))).setCell ⟨b2, 8, none⟩ (.int .i64 (qq 6))).setCell ⟨b2, 9, none⟩ (.int .i64 (qq 7))).setCell ⟨b2, 10, none⟩ (.slice none 0 0)) := by
    iterate 11 refine Fr.setCell ?_ (.inr (by simp; omega)) _
    exact hF
  have hR8 : RdAt rb n [] false (((((((((((w3.setCell ⟨b2, 0, none⟩ (.int .i64 0)).setCell ⟨b2, 1, none⟩ (.int .i64 s)).setCell ⟨b2, 2, none⟩ (.int .i64 (qq 0))).setCell ⟨b2, 3, none⟩ (.int .i64 (qq 1))).setCell ⟨b2, 4, none⟩ (.int .i64 (qq 2))).setCell ⟨b2, 5, none⟩ (.int .i64 (qq 3))).setCell ⟨b2, 6, none⟩ (.int .i64 (qq 4))).setCell ⟨b2, 7, none⟩ (.int .i64 (qq 5))).setCell ⟨b2, 8, none⟩ (.int .i64 (qq 6))).setCell ⟨b2, 9, none⟩ (.int .i64 (qq 7))).setCell ⟨b2, 10, none⟩ (.slice none 0 0)) := by
    unfold RdAt at hR3 ⊢
    iterate 11 rw [Below.heap_setCell _ _ _ _ n1]
    exact hR3
  have hk8 : (((((((((((w3.setCell ⟨b2, 0, none⟩ (.int .i64 0)).setCell ⟨b2, 1, none⟩ (.int .i64 s)).setCell ⟨b2, 2, none⟩ (.int .i64 (qq 0))).setCell ⟨b2, 3, none⟩ (.int .i64 (qq 1))).setCell ⟨b2, 4, none⟩ (.int .i64 (qq 2))).setCell ⟨b2, 5, none⟩ (.int .i64 (qq 3))).setCell ⟨b2, 6, none⟩ (.int .i64 (qq 4))).setCell ⟨b2, 7, none⟩ (.int .i64 (qq 5))).setCell ⟨b2, 8, none⟩ (.int .i64 (qq 6))).setCell ⟨b2, 9, none⟩ (.int .i64 (qq 7))).setCell ⟨b2, 10, none⟩ (.slice none 0 0)).heap[b2]? = some (.cells (frArr 0 s qq (.slice none 0 0)) 143) := set11_blk k3
  generalize (((((((((((w3.setCell ⟨b2, 0, none⟩ (.int .i64 0)).setCell ⟨b2, 1, none⟩ (.int .i64 s)).setCell ⟨b2, 2, none⟩ (.int .i64 (qq 0))).setCell ⟨b2, 3, none⟩ (.int .i64 (qq 1))).setCell ⟨b2, 4, none⟩ (.int .i64 (qq 2))).setCell ⟨b2, 5, none⟩ (.int .i64 (qq 3))).setCell ⟨b2, 6, none⟩ (.int .i64 (qq 4))).setCell ⟨b2, 7, none⟩ (.int .i64 (qq 5))).setCell ⟨b2, 8, none⟩ (.int .i64 (qq 6))).setCell ⟨b2, 9, none⟩ (.int .i64 (qq 7))).setCell ⟨b2, 10, none⟩ (.slice none 0 0)) = w8 at hF8 hR8 hk8 ⊢
  clear d0 d1 d2 d3 d4 d5 d6 d7 d8 d9 d10 f0 f1 f2 f3 f4 f5 f6 f7 f8 f9 f10
  unfold frArr at hk8
  have d0 : w8.cell? ⟨b2, 0, none⟩ = some (.int .i64 0) := cell_blk hk8 0
  have d1 : w8.cell? ⟨b2, 1, none⟩ = some (.int .i64 s) := cell_blk hk8 1
  have d2 : w8.cell? ⟨b2, 2, none⟩ = some (.int .i64 (qq 0)) := cell_blk hk8 2
  have d3 : w8.cell? ⟨b2, 3, none⟩ = some (.int .i64 (qq 1)) := cell_blk hk8 3
  have d4 : w8.cell? ⟨b2, 4, none⟩ = some (.int .i64 (qq 2)) := cell_blk hk8 4
  have d5 : w8.cell? ⟨b2, 5, none⟩ = some (.int .i64 (qq 3)) := cell_blk hk8 5
  have d6 : w8.cell? ⟨b2, 6, none⟩ = some (.int .i64 (qq 4)) := cell_blk hk8 6
  have d7 : w8.cell? ⟨b2, 7, none⟩ = some (.int .i64 (qq 5)) := cell_blk hk8 7
  have d8 : w8.cell? ⟨b2, 8, none⟩ = some (.int .i64 (qq 6)) := cell_blk hk8 8
  have d9 : w8.cell? ⟨b2, 9, none⟩ = some (.int .i64 (qq 7)) := cell_blk hk8 9
  have d10 : w8.cell? ⟨b2, 10, none⟩ = some (.slice none 0 0) := cell_blk hk8 10
  exact bodyPost_ret (v := .agg (frArr 0 s qq (.slice none 0 0))) (by simp [results, Tryz.results126, go_sem, frArr, d0, d1, d2, d3, d4, d5, d6, d7, d8, d9, d10]) rfl ⟨by rw [HQ.out], hR8, hF8⟩

set_option maxRecDepth 100000 in
set_option maxHeartbeats 4000000 in
/-- A digest is read. -/
theorem readT (n : Nat) (h8 : n ≤ 8) (s : Int) (hs1 : 1 ≤ s) (hsn : s ≤ n) (q : Nat → Int) (hq : ∀ i, i < n → 0 ≤ q i ∧ q i ≤ 100) (w : World) :
    Calls Tryz.prog 87 #[.int .i64 n, str (digest n s q)] w fun e w' => e = .returned (.tuple #[.agg (frArr 0 s (partCk q n) (.slice none 0 0)), .bool true]) ∧ w.grownBy w' none := by
  have hml : (68 :: vbs (s :: clk n q)).length ≤ 116 := by
    have hsl := smalls_len n q
    rw [show vbs (s :: clk n q) = vb s.toNat ++ vbs (clk n q) from rfl, smalls_vbs n q hq, vb_small (by omega)]
    simp; omega
  have hU := fun w => unsealT (68 :: vbs (s :: clk n q)) hml w
  have hD := fun (rb : Nat) (w : World) (h : RdAt rb n (vbs (s :: clk n q)) false w) => digestT rb n h8 s hs1 hsn q hq w h
  unfold digest
  have hdr : ∀ w, (Instr.slice 9 (str (68 :: vbs (s :: clk n q))) (some (.int .i64 1)) none none).run Tryz.prog w = .ok (str (vbs (s :: clk n q))) w := fun w => str_drop (68 :: vbs (s :: clk n q)) 1 (by simp) w
  have hix : ∀ w, (Instr.index 9 (str (68 :: vbs (s :: clk n q))) (.int .i64 0)).run Tryz.prog w = .ok (.int .u8 68) w := fun w => sindex (68 :: vbs (s :: clk n q)) 0 68 rfl w
  have hne : ((68 :: vbs (s :: clk n q)) == ([] : List UInt8)) = false := rfl
  generalize vbs (s :: clk n q) = L at hU hD hdr hix hne ⊢
  generalize 68 :: L = M at hU hdr hix hne ⊢
  generalize sealB M = D at hU ⊢
  generalize partCk q n = qq at hD ⊢
  unfold frArr at hD
  have HU := hide hU
  have HD := hide hD
  clear hU hD hml hq
  go_enter Tryz.func87, Tryz.ntmps87
  go_upto_region 1 with fail
  have g1 : w.grownBy (w.alloc (.cells #[.int .i64 0, .int .i64 0, .int .i64 0, .int .i64 0, .int .i64 0, .int .i64 0, .int .i64 0, .int .i64 0, .int .i64 0, .int .i64 0, .slice none 0 0] 143)) none := grown_alloc (grown_refl _) _
  have k1 : (w.alloc (.cells #[.int .i64 0, .int .i64 0, .int .i64 0, .int .i64 0, .int .i64 0, .int .i64 0, .int .i64 0, .int .i64 0, .int .i64 0, .int .i64 0, .slice none 0 0] 143)).heap[w.heap.size]? = some (.cells #[.int .i64 0, .int .i64 0, .int .i64 0, .int .i64 0, .int .i64 0, .int .i64 0, .int .i64 0, .int .i64 0, .int .i64 0, .int .i64 0, .slice none 0 0] 143) := by rw [heap_alloc_at]; simp
  generalize (w.alloc (.cells #[.int .i64 0, .int .i64 0, .int .i64 0, .int .i64 0, .int .i64 0, .int .i64 0, .int .i64 0, .int .i64 0, .int .i64 0, .int .i64 0, .slice none 0 0] 143)) = w1 at g1 k1 ⊢
  obtain ⟨b4, hb4⟩ : ∃ b, w.heap.size = b := ⟨_, rfl⟩
  rw [hb4] at k1 ⊢
  go_wp2_with fail
  refine (HU.out w1).mono ?_
  rintro e w2 ⟨rfl, g2⟩
  have k2 := (g2.block _ (lt_of_heap k1) (by simp)).trans k1
  have hlt2 := lt_of_heap k2
  go_upto_region 6 with fail
  have g3 : w2.grownBy ((w2.alloc (.cells #[.int .i64 n, str L, .bool false] 193)).alloc (.cells #[.int .i64 0, .int .i64 0, .int .i64 0, .int .i64 0, .int .i64 0, .int .i64 0, .int .i64 0, .int .i64 0, .int .i64 0, .int .i64 0, .slice none 0 0] 143)) none := grown_alloc (grown_alloc (grown_refl _) _) _
  have k8 : ((w2.alloc (.cells #[.int .i64 n, str L, .bool false] 193)).alloc (.cells #[.int .i64 0, .int .i64 0, .int .i64 0, .int .i64 0, .int .i64 0, .int .i64 0, .int .i64 0, .int .i64 0, .int .i64 0, .int .i64 0, .slice none 0 0] 143)).heap[w2.heap.size]? = some (.cells #[.int .i64 n, str L, .bool false] 193) := by simp only [heap_alloc_at, World.size_alloc]; simp
  have k9 : ((w2.alloc (.cells #[.int .i64 n, str L, .bool false] 193)).alloc (.cells #[.int .i64 0, .int .i64 0, .int .i64 0, .int .i64 0, .int .i64 0, .int .i64 0, .int .i64 0, .int .i64 0, .int .i64 0, .int .i64 0, .slice none 0 0] 143)).heap[w2.heap.size + 1]? = some (.cells #[.int .i64 0, .int .i64 0, .int .i64 0, .int .i64 0, .int .i64 0, .int .i64 0, .int .i64 0, .int .i64 0, .int .i64 0, .int .i64 0, .slice none 0 0] 143) := by simp only [heap_alloc_at, World.size_alloc]; simp
  generalize ((w2.alloc (.cells #[.int .i64 n, str L, .bool false] 193)).alloc (.cells #[.int .i64 0, .int .i64 0, .int .i64 0, .int .i64 0, .int .i64 0, .int .i64 0, .int .i64 0, .int .i64 0, .int .i64 0, .int .i64 0, .slice none 0 0] 143)) = w3 at g3 k8 k9 ⊢
  have k43 := (g3.block _ hlt2 (by simp)).trans k2
  have gA := grown_trans g1 (grown_trans g2 g3)
  have hb8 : b4 < w2.heap.size := hlt2
  generalize w2.heap.size = rb at k8 k9 hb8 ⊢
  have HD2 := hide (HD.out rb w3 k8)
  clear k1 k2 g1 g2 g3 HU HD hlt2
  go_wp2_with fail
  refine HD2.out.mono ?_
  rintro e w5 ⟨rfl, hR5, hF5⟩
  have k95 := hF5.blk k9 (by simp)
  have k45 := hF5.blk k43 (by simp; omega)
  have hFA : Fr [] w w5 := (Fr.ofGrown gA).after hF5 (fun x hx => .inr (by simp at hx; omega))
  have r1 : w5.cell? ⟨rb, 1, none⟩ = some (str []) := cell_blk hR5 1
  have r2 : w5.cell? ⟨rb, 2, none⟩ = some (.bool false) := cell_blk hR5 2
  have d0 : w5.cell? ⟨rb + 1, 0, none⟩ = some (.int .i64 0) := cell_blk k95 0
  have f0 : w5.frozen? ⟨rb + 1, 0, none⟩ = false := frozen_blk k95 0
  have d1 : w5.cell? ⟨rb + 1, 1, none⟩ = some (.int .i64 0) := cell_blk k95 1
  have f1 : w5.frozen? ⟨rb + 1, 1, none⟩ = false := frozen_blk k95 1
  have d2 : w5.cell? ⟨rb + 1, 2, none⟩ = some (.int .i64 0) := cell_blk k95 2
  have f2 : w5.frozen? ⟨rb + 1, 2, none⟩ = false := frozen_blk k95 2
  have d3 : w5.cell? ⟨rb + 1, 3, none⟩ = some (.int .i64 0) := cell_blk k95 3
  have f3 : w5.frozen? ⟨rb + 1, 3, none⟩ = false := frozen_blk k95 3
  have d4 : w5.cell? ⟨rb + 1, 4, none⟩ = some (.int .i64 0) := cell_blk k95 4
  have f4 : w5.frozen? ⟨rb + 1, 4, none⟩ = false := frozen_blk k95 4
  have d5 : w5.cell? ⟨rb + 1, 5, none⟩ = some (.int .i64 0) := cell_blk k95 5
  have f5 : w5.frozen? ⟨rb + 1, 5, none⟩ = false := frozen_blk k95 5
  have d6 : w5.cell? ⟨rb + 1, 6, none⟩ = some (.int .i64 0) := cell_blk k95 6
  have f6 : w5.frozen? ⟨rb + 1, 6, none⟩ = false := frozen_blk k95 6
  have d7 : w5.cell? ⟨rb + 1, 7, none⟩ = some (.int .i64 0) := cell_blk k95 7
  have f7 : w5.frozen? ⟨rb + 1, 7, none⟩ = false := frozen_blk k95 7
  have d8 : w5.cell? ⟨rb + 1, 8, none⟩ = some (.int .i64 0) := cell_blk k95 8
  have f8 : w5.frozen? ⟨rb + 1, 8, none⟩ = false := frozen_blk k95 8
  have d9 : w5.cell? ⟨rb + 1, 9, none⟩ = some (.int .i64 0) := cell_blk k95 9
  have f9 : w5.frozen? ⟨rb + 1, 9, none⟩ = false := frozen_blk k95 9
  have d10 : w5.cell? ⟨rb + 1, 10, none⟩ = some (.slice none 0 0) := cell_blk k95 10
  have f10 : w5.frozen? ⟨rb + 1, 10, none⟩ = false := frozen_blk k95 10
  go_upto_region 12 with fail
  have hF6 : Fr [] w (((((((((((w5.setCell ⟨rb + 1, 0, none⟩ (.int .i64 0)).setCell ⟨rb + 1, 1, none⟩ (.int .i64 s)).setCell ⟨rb + 1, 2, none⟩ (.int .i64 (qq 0))).setCell ⟨rb + 1, 3, none⟩ (.int .i64 (qq 1))).setCell ⟨rb + 1, 4, none⟩ (.int .i64 (qq 2))).setCell ⟨rb + 1, 5, none⟩ (.int .i64 (qq 3))).setCell ⟨rb + 1, 6, none⟩ (.int .i64 (qq 4))).setCell ⟨rb + 1, 7, none⟩ (.int .i64 (qq 5))).setCell ⟨rb + 1, 8, none⟩ (.int .i64 (qq 6))).setCell ⟨rb + 1, 9, none⟩ (.int .i64 (qq 7))).setCell ⟨rb + 1, 10, none⟩ (.slice none 0 0)) := by
    iterate 11 refine Fr.setCell ?_ (.inr (by simp; omega)) _
    exact hFA
  have q1 : (((((((((((w5.setCell ⟨rb + 1, 0, none⟩ (.int .i64 0)).setCell ⟨rb + 1, 1, none⟩ (.int .i64 s)).setCell ⟨rb + 1, 2, none⟩ (.int .i64 (qq 0))).setCell ⟨rb + 1, 3, none⟩ (.int .i64 (qq 1))).setCell ⟨rb + 1, 4, none⟩ (.int .i64 (qq 2))).setCell ⟨rb + 1, 5, none⟩ (.int .i64 (qq 3))).setCell ⟨rb + 1, 6, none⟩ (.int .i64 (qq 4))).setCell ⟨rb + 1, 7, none⟩ (.int .i64 (qq 5))).setCell ⟨rb + 1, 8, none⟩ (.int .i64 (qq 6))).setCell ⟨rb + 1, 9, none⟩ (.int .i64 (qq 7))).setCell ⟨rb + 1, 10, none⟩ (.slice none 0 0)).heap[rb]? = some (.cells #[.int .i64 n, str [], .bool false] 193) := by
    iterate 11 rw [Below.heap_setCell _ _ _ _ (by simp)]
    exact hR5
  have q4 : (((((((((((w5.setCell ⟨rb + 1, 0, none⟩ (.int .i64 0)).setCell ⟨rb + 1, 1, none⟩ (.int .i64 s)).setCell ⟨rb + 1, 2, none⟩ (.int .i64 (qq 0))).setCell ⟨rb + 1, 3, none⟩ (.int .i64 (qq 1))).setCell ⟨rb + 1, 4, none⟩ (.int .i64 (qq 2))).setCell ⟨rb + 1, 5, none⟩ (.int .i64 (qq 3))).setCell ⟨rb + 1, 6, none⟩ (.int .i64 (qq 4))).setCell ⟨rb + 1, 7, none⟩ (.int .i64 (qq 5))).setCell ⟨rb + 1, 8, none⟩ (.int .i64 (qq 6))).setCell ⟨rb + 1, 9, none⟩ (.int .i64 (qq 7))).setCell ⟨rb + 1, 10, none⟩ (.slice none 0 0)).heap[b4]? = some (.cells #[.int .i64 0, .int .i64 0, .int .i64 0, .int .i64 0, .int .i64 0, .int .i64 0, .int .i64 0, .int .i64 0, .int .i64 0, .int .i64 0, .slice none 0 0] 143) := by
    iterate 11 rw [Below.heap_setCell _ _ _ _ (by simp; omega)]
    exact k45
  have q9 : (((((((((((w5.setCell ⟨rb + 1, 0, none⟩ (.int .i64 0)).setCell ⟨rb + 1, 1, none⟩ (.int .i64 s)).setCell ⟨rb + 1, 2, none⟩ (.int .i64 (qq 0))).setCell ⟨rb + 1, 3, none⟩ (.int .i64 (qq 1))).setCell ⟨rb + 1, 4, none⟩ (.int .i64 (qq 2))).setCell ⟨rb + 1, 5, none⟩ (.int .i64 (qq 3))).setCell ⟨rb + 1, 6, none⟩ (.int .i64 (qq 4))).setCell ⟨rb + 1, 7, none⟩ (.int .i64 (qq 5))).setCell ⟨rb + 1, 8, none⟩ (.int .i64 (qq 6))).setCell ⟨rb + 1, 9, none⟩ (.int .i64 (qq 7))).setCell ⟨rb + 1, 10, none⟩ (.slice none 0 0)).heap[rb + 1]? = some (.cells (frArr 0 s qq (.slice none 0 0)) 143) := set11_blk k95
  generalize (((((((((((w5.setCell ⟨rb + 1, 0, none⟩ (.int .i64 0)).setCell ⟨rb + 1, 1, none⟩ (.int .i64 s)).setCell ⟨rb + 1, 2, none⟩ (.int .i64 (qq 0))).setCell ⟨rb + 1, 3, none⟩ (.int .i64 (qq 1))).setCell ⟨rb + 1, 4, none⟩ (.int .i64 (qq 2))).setCell ⟨rb + 1, 5, none⟩ (.int .i64 (qq 3))).setCell ⟨rb + 1, 6, none⟩ (.int .i64 (qq 4))).setCell ⟨rb + 1, 7, none⟩ (.int .i64 (qq 5))).setCell ⟨rb + 1, 8, none⟩ (.int .i64 (qq 6))).setCell ⟨rb + 1, 9, none⟩ (.int .i64 (qq 7))).setCell ⟨rb + 1, 10, none⟩ (.slice none 0 0)) = w6 at hF6 q1 q4 q9 ⊢
  clear d0 f0 d1 f1 d2 f2 d3 f3 d4 f4 d5 f5 d6 f6 d7 f7 d8 f8 d9 f9 d10 f10 r1 r2
  unfold frArr at q9
  have r1 : w6.cell? ⟨rb, 1, none⟩ = some (str []) := cell_blk q1 1
  have r2 : w6.cell? ⟨rb, 2, none⟩ = some (.bool false) := cell_blk q1 2
  have c0 : w6.cell? ⟨rb + 1, 0, none⟩ = some (.int .i64 0) := cell_blk q9 0
  have c1 : w6.cell? ⟨rb + 1, 1, none⟩ = some (.int .i64 s) := cell_blk q9 1
  have c2 : w6.cell? ⟨rb + 1, 2, none⟩ = some (.int .i64 (qq 0)) := cell_blk q9 2
  have c3 : w6.cell? ⟨rb + 1, 3, none⟩ = some (.int .i64 (qq 1)) := cell_blk q9 3
  have c4 : w6.cell? ⟨rb + 1, 4, none⟩ = some (.int .i64 (qq 2)) := cell_blk q9 4
  have c5 : w6.cell? ⟨rb + 1, 5, none⟩ = some (.int .i64 (qq 3)) := cell_blk q9 5
  have c6 : w6.cell? ⟨rb + 1, 6, none⟩ = some (.int .i64 (qq 4)) := cell_blk q9 6
  have c7 : w6.cell? ⟨rb + 1, 7, none⟩ = some (.int .i64 (qq 5)) := cell_blk q9 7
  have c8 : w6.cell? ⟨rb + 1, 8, none⟩ = some (.int .i64 (qq 6)) := cell_blk q9 8
  have c9 : w6.cell? ⟨rb + 1, 9, none⟩ = some (.int .i64 (qq 7)) := cell_blk q9 9
  have c10 : w6.cell? ⟨rb + 1, 10, none⟩ = some (.slice none 0 0) := cell_blk q9 10
  have d0 : w6.cell? ⟨b4, 0, none⟩ = some (.int .i64 0) := cell_blk q4 0
  have f0 : w6.frozen? ⟨b4, 0, none⟩ = false := frozen_blk q4 0
  have d1 : w6.cell? ⟨b4, 1, none⟩ = some (.int .i64 0) := cell_blk q4 1
  have f1 : w6.frozen? ⟨b4, 1, none⟩ = false := frozen_blk q4 1
  have d2 : w6.cell? ⟨b4, 2, none⟩ = some (.int .i64 0) := cell_blk q4 2
  have f2 : w6.frozen? ⟨b4, 2, none⟩ = false := frozen_blk q4 2
  have d3 : w6.cell? ⟨b4, 3, none⟩ = some (.int .i64 0) := cell_blk q4 3
  have f3 : w6.frozen? ⟨b4, 3, none⟩ = false := frozen_blk q4 3
  have d4 : w6.cell? ⟨b4, 4, none⟩ = some (.int .i64 0) := cell_blk q4 4
  have f4 : w6.frozen? ⟨b4, 4, none⟩ = false := frozen_blk q4 4
  have d5 : w6.cell? ⟨b4, 5, none⟩ = some (.int .i64 0) := cell_blk q4 5
  have f5 : w6.frozen? ⟨b4, 5, none⟩ = false := frozen_blk q4 5
  have d6 : w6.cell? ⟨b4, 6, none⟩ = some (.int .i64 0) := cell_blk q4 6
  have f6 : w6.frozen? ⟨b4, 6, none⟩ = false := frozen_blk q4 6
  have d7 : w6.cell? ⟨b4, 7, none⟩ = some (.int .i64 0) := cell_blk q4 7
  have f7 : w6.frozen? ⟨b4, 7, none⟩ = false := frozen_blk q4 7
  have d8 : w6.cell? ⟨b4, 8, none⟩ = some (.int .i64 0) := cell_blk q4 8
  have f8 : w6.frozen? ⟨b4, 8, none⟩ = false := frozen_blk q4 8
  have d9 : w6.cell? ⟨b4, 9, none⟩ = some (.int .i64 0) := cell_blk q4 9
  have f9 : w6.frozen? ⟨b4, 9, none⟩ = false := frozen_blk q4 9
  have d10 : w6.cell? ⟨b4, 10, none⟩ = some (.slice none 0 0) := cell_blk q4 10
  have f10 : w6.frozen? ⟨b4, 10, none⟩ = false := frozen_blk q4 10
  go_wp2_with fail
  have hF7 : Fr [] w (((((((((((w6.setCell ⟨b4, 0, none⟩ (.int .i64 0)).setCell ⟨b4, 1, none⟩ (.int .i64 s)).setCell ⟨b4, 2, none⟩ (.int .i64 (qq 0))).setCell ⟨b4, 3, none⟩ (.int .i64 (qq 1))).setCell ⟨b4, 4, none⟩ (.int .i64 (qq 2))).setCell ⟨b4, 5, none⟩ (.int .i64 (qq 3))).setCell ⟨b4, 6, none⟩ (.int .i64 (qq 4))).setCell ⟨b4, 7, none⟩ (.int .i64 (qq 5))).setCell ⟨b4, 8, none⟩ (.int .i64 (qq 6))).setCell ⟨b4, 9, none⟩ (.int .i64 (qq 7))).setCell ⟨b4, 10, none⟩ (.slice none 0 0)) := by
    iterate 11 refine Fr.setCell ?_ (.inr (by simp; omega)) _
    exact hF6
  have z4 : (((((((((((w6.setCell ⟨b4, 0, none⟩ (.int .i64 0)).setCell ⟨b4, 1, none⟩ (.int .i64 s)).setCell ⟨b4, 2, none⟩ (.int .i64 (qq 0))).setCell ⟨b4, 3, none⟩ (.int .i64 (qq 1))).setCell ⟨b4, 4, none⟩ (.int .i64 (qq 2))).setCell ⟨b4, 5, none⟩ (.int .i64 (qq 3))).setCell ⟨b4, 6, none⟩ (.int .i64 (qq 4))).setCell ⟨b4, 7, none⟩ (.int .i64 (qq 5))).setCell ⟨b4, 8, none⟩ (.int .i64 (qq 6))).setCell ⟨b4, 9, none⟩ (.int .i64 (qq 7))).setCell ⟨b4, 10, none⟩ (.slice none 0 0)).heap[b4]? = some (.cells (frArr 0 s qq (.slice none 0 0)) 143) := set11_blk q4
  generalize (((((((((((w6.setCell ⟨b4, 0, none⟩ (.int .i64 0)).setCell ⟨b4, 1, none⟩ (.int .i64 s)).setCell ⟨b4, 2, none⟩ (.int .i64 (qq 0))).setCell ⟨b4, 3, none⟩ (.int .i64 (qq 1))).setCell ⟨b4, 4, none⟩ (.int .i64 (qq 2))).setCell ⟨b4, 5, none⟩ (.int .i64 (qq 3))).setCell ⟨b4, 6, none⟩ (.int .i64 (qq 4))).setCell ⟨b4, 7, none⟩ (.int .i64 (qq 5))).setCell ⟨b4, 8, none⟩ (.int .i64 (qq 6))).setCell ⟨b4, 9, none⟩ (.int .i64 (qq 7))).setCell ⟨b4, 10, none⟩ (.slice none 0 0)) = w7 at hF7 z4 ⊢
  clear c0 d0 f0 c1 d1 f1 c2 d2 f2 c3 d3 f3 c4 d4 f4 c5 d5 f5 c6 d6 f6 c7 d7 f7 c8 d8 f8 c9 d9 f9 c10 d10 f10
  unfold frArr at z4
  have d0 : w7.cell? ⟨b4, 0, none⟩ = some (.int .i64 0) := cell_blk z4 0
  have d1 : w7.cell? ⟨b4, 1, none⟩ = some (.int .i64 s) := cell_blk z4 1
  have d2 : w7.cell? ⟨b4, 2, none⟩ = some (.int .i64 (qq 0)) := cell_blk z4 2
  have d3 : w7.cell? ⟨b4, 3, none⟩ = some (.int .i64 (qq 1)) := cell_blk z4 3
  have d4 : w7.cell? ⟨b4, 4, none⟩ = some (.int .i64 (qq 2)) := cell_blk z4 4
  have d5 : w7.cell? ⟨b4, 5, none⟩ = some (.int .i64 (qq 3)) := cell_blk z4 5
  have d6 : w7.cell? ⟨b4, 6, none⟩ = some (.int .i64 (qq 4)) := cell_blk z4 6
  have d7 : w7.cell? ⟨b4, 7, none⟩ = some (.int .i64 (qq 5)) := cell_blk z4 7
  have d8 : w7.cell? ⟨b4, 8, none⟩ = some (.int .i64 (qq 6)) := cell_blk z4 8
  have d9 : w7.cell? ⟨b4, 9, none⟩ = some (.int .i64 (qq 7)) := cell_blk z4 9
  have d10 : w7.cell? ⟨b4, 10, none⟩ = some (.slice none 0 0) := cell_blk z4 10
  exact bodyPost_ret (v := .tuple #[.agg (frArr 0 s qq (.slice none 0 0)), .bool true]) (by simp [results, Tryz.results87, go_sem, frArr, d0, d1, d2, d3, d4, d5, d6, d7, d8, d9, d10]) rfl ⟨rfl, hF7.toGrown⟩

end Go.Proofs.YtachmkhbbbmioaaGreat

namespace Go.Proofs.YtachmkhbbbmioaaGreat
open Go.RowKit Go.Shelf

/-- The operations of one name. -/
def ofName (ops : List OpR) (i : Nat) (k : Int) : List OpR := ops.filter (fun x => x.o == (i : Int) + 1 && x.num == k)
/-- Those of one copy that a clock does not count. -/
def missO (S : CS) (q : Nat → Int) (i m : Nat) : List OpR := (List.range m).flatMap fun (j : Nat) => ofName S.ops i (q i + 1 + (j : Int))
def missTo (S : CS) (q : Nat → Int) (i : Nat) : List OpR := (List.range i).flatMap fun i => missO S q i (S.cl i - q i).toNat
def miss (S : CS) (q : Nat → Int) : List OpR := missTo S q S.n

theorem missO_succ (S : CS) (q : Nat → Int) (i m : Nat) : missO S q i (m + 1) = missO S q i m ++ ofName S.ops i (q i + 1 + m) := by
  unfold missO
  rw [List.range_succ, List.flatMap_append]; simp
theorem missTo_succ (S : CS) (q : Nat → Int) (i : Nat) : missTo S q (i + 1) = missTo S q i ++ missO S q i (S.cl i - q i).toNat := by
  unfold missTo
  rw [List.range_succ, List.flatMap_append]; simp

/-- There is just one of each name. -/
theorem one_of {ops : List OpR} (h1 : ops.Pairwise (fun x y => ¬ (x.o = y.o ∧ x.num = y.num))) {i : Nat} {k : Int} {x : OpR} (hx : x ∈ ops) (e1 : x.o = (i : Int) + 1) (e2 : x.num = k) :
    ofName ops i k = [x] ∧ ops.find? (fun y => y.o == (i : Int) + 1 && y.num == k) = some x := by
  induction ops with
  | nil => cases hx
  | cons y ops ih =>
    obtain ⟨h2, h3⟩ := List.pairwise_cons.1 h1
    rcases List.mem_cons.1 hx with rfl | hx'
    · have hy : (x.o == (i : Int) + 1 && x.num == k) = true := by simp [e1, e2]
      have hn : ops.filter (fun y => y.o == (i : Int) + 1 && y.num == k) = [] := by
        apply List.filter_eq_nil_iff.2
        intro z hz q
        simp only [Bool.and_eq_true, beq_iff_eq] at q
        exact h2 z hz ⟨by rw [e1, q.1], by rw [e2, q.2]⟩
      refine ⟨?_, by rw [List.find?_cons, hy]⟩
      unfold ofName
      rw [List.filter_cons, if_pos hy, hn]
    · have hy : (y.o == (i : Int) + 1 && y.num == k) = false := by
        rw [Bool.eq_false_iff]
        intro q
        simp only [Bool.and_eq_true, beq_iff_eq] at q
        exact h2 x hx' ⟨by rw [e1, q.1], by rw [e2, q.2]⟩
      obtain ⟨h4, h5⟩ := ih h3 hx'
      refine ⟨?_, by rw [List.find?_cons, hy]; exact h5⟩
      unfold ofName
      rw [List.filter_cons, hy, if_neg (by simp)]
      exact h4

theorem OpsOk.at {S : CS} (h : OpsOk S) {i : Nat} (hi : i < S.n) {k : Int} (h1 : 1 ≤ k) (h2 : k ≤ S.cl i) : ∃ x ∈ S.ops, ofName S.ops i k = [x] ∧ S.ops.find? (fun y => y.o == (i : Int) + 1 && y.num == k) = some x := by
  obtain ⟨x, hx, e1, e2⟩ := h.all i hi k h1 h2
  exact ⟨x, hx, one_of h.one hx e1 e2⟩

theorem missO_len {S : CS} (h : OpsOk S) {i : Nat} (hi : i < S.n) (q : Nat → Int) (hq : 0 ≤ q i) : ∀ m : Nat, q i + m ≤ S.cl i → (missO S q i m).length = m
  | 0, _ => by simp [missO]
  | m + 1, hm => by
    obtain ⟨x, -, e1, -⟩ := h.at hi (k := q i + 1 + m) (by omega) (by omega)
    rw [missO_succ, List.length_append, missO_len h hi q hq m (by omega), e1]; rfl

theorem missTo_len {S : CS} (hG : Good S) (h : OpsOk S) (q : Nat → Int) (hq : ∀ i, i < S.n → 0 ≤ q i) : ∀ i, i ≤ S.n → (missTo S q i).length ≤ 100 * i
  | 0, _ => by simp [missTo]
  | i + 1, hi => by
    have h8 := hG.n8
    have h1 := missTo_len hG h q hq i (by omega)
    have h2 := hq i (by omega)
    have h3 := hG.cl i (by omega)
    rw [missTo_succ, List.length_append]
    by_cases hc : q i ≤ S.cl i
    · rw [missO_len h (by omega) q h2 _ (by omega)]
      omega
    · have : (S.cl i - q i).toNat = 0 := by omega
      rw [this]
      simp only [missO, List.range_zero, List.flatMap_nil, List.length_nil]
      omega

theorem ofName_mem {ops : List OpR} {i : Nat} {k : Int} {x : OpR} (h : x ∈ ofName ops i k) : x ∈ ops := (List.mem_filter.1 h).1
theorem miss_mem {S : CS} {q : Nat → Int} {x : OpR} {m : Nat} (h : x ∈ missTo S q m) : x ∈ S.ops := by
  obtain ⟨i, -, h1⟩ := List.mem_flatMap.1 h
  obtain ⟨j, -, h2⟩ := List.mem_flatMap.1 h1
  exact ofName_mem h2

theorem lookOp {w : World} {b : Nat} {l : List Ent} (h : entsAt w b l) (c k : Int) {v : Value} (hv : look c k l = some v) :
    (Instr.lookup 135 (.map (some b)) (pr c k) false).run Tryz.prog w = .ok v w := by
  have := run_lookup keyName (fun w => Tryz.zeroValue154 w) h c k
  rw [this, hv]; rfl

theorem infoOpP : (Tryz.prog.info? 154).map (fun i => (i.zero, i.size, i.bytes)) = some (some (.agg (opArr 0 0 0 0 0 0 0 (fun _ => 0))), 15, 120) := by kernel_rfl

set_option maxRecDepth 100000 in
set_option maxHeartbeats 4000000 in
theorem beyondP (sb ma mp lb mb : Nat) (S : CS) (hG : Good S) (ho : OpsOk S) (q : Nat → Int) (hq : ∀ i, i < S.n → 0 ≤ q i ∧ q i ≤ 100) (w : World) (hS : StAt sb ma mp lb mb S w) :
    Calls Tryz.prog 89 #[.pointer (some ⟨sb, 0, none⟩), .agg (ckArr q)] w fun e w' => ∃ v', e = .returned v' ∧ RowAt 154 15 v' (opRow (miss S q)) w' ∧ w.grownBy w' none := by
  have h8 := hG.n8
  have hml := missTo_len hG ho q (fun i hi => (hq i hi).1)
  have HG : Hid (∀ w1, (w.alloc (.cells (ckArr q) 134)) = w1 → w.grownBy w1 none ∧ w1.heap[w.heap.size]? = some (.cells (ckArr q) 134)) := by
    rintro w1 rfl
    exact ⟨grown_alloc (grown_refl _) _, by rw [heap_alloc_at]; simp⟩
  go_enter Tryz.func89, Tryz.ntmps89
  unfold ckArr
  go_upto_region 1 with fail
  have HG' : Hid (∀ w1, (w.alloc (.cells #[.int .i64 (q 0), .int .i64 (q 1), .int .i64 (q 2), .int .i64 (q 3), .int .i64 (q 4), .int .i64 (q 5), .int .i64 (q 6), .int .i64 (q 7)] 134)) = w1 → w.grownBy w1 none ∧ w1.heap[w.heap.size]? = some (.cells (ckArr q) 134)) := HG
  clear HG
  generalize hw1 : (w.alloc (.cells #[.int .i64 (q 0), .int .i64 (q 1), .int .i64 (q 2), .int .i64 (q 3), .int .i64 (q 4), .int .i64 (q 5), .int .i64 (q 6), .int .i64 (q 7)] 134)) = w1
  obtain ⟨g1, k1⟩ := HG'.out w1 hw1
  clear hw1 HG'
  have hS1 := hS.grown g1
  generalize w.heap.size = bq at k1 ⊢
  go_wp2_with fail
  go_loopg [5, 6] S.n (fun gk s5 s6 wr => ∃ (i : Nat), s6 = .int .i64 ((i : Int) + 1) ∧ i ≤ S.n ∧ gk = S.n - i ∧ RowAt 154 15 s5 (opRow (missTo S q i)) wr ∧ w1.grownBy wr none ∧ (∀ g, s5.ownBlock = some g → w1.heap.size ≤ g))
  case atStart => exact ⟨0, rfl, by omega, rfl, row_nil _ _ _, grown_refl _, by simp [Value.ownBlock]⟩
  case round =>
    obtain ⟨i, rfl, hil, hgk0, hR, hg, hO⟩ := hrel
    have hS2 := hS1.grown hg
    have c0 : wr.cell? ⟨sb, 0, none⟩ = some (.int .i64 S.n) := cell_blk hS2.st 0
    by_cases hlt : i < S.n
    · have hli : (i : Int) + 1 ≤ (S.n : Int) := by omega
      have hqi := hq i hlt
      have hci := hG.cl i (by omega)
      have kq := (hg.block _ (lt_of_heap k1) (by simp)).trans k1
      have hcell : wr.cell? ⟨bq, 0 + (((i : Int) + 1).toNat - 1), none⟩ = some (.int .i64 (q i)) := by
        have e : 0 + (((i : Int) + 1).toNat - 1) = i := by omega
        rw [e, cell_blk kq i]; exact ckArr_at q i (by omega)
      have hOf := hide (of_any bq 0 ((i : Int) + 1) (by omega) (by omega) (q i) wr hcell)
      have hw1 : IntKind.i64.wrap (q i + 1) = q i + 1 := by rw [IntKind.wrap_i64]; omega
      have hmi := hml i hil
      obtain ⟨T, hT⟩ : ∃ T, missTo S q i = T := ⟨_, rfl⟩
      have HT := hide hT
      rw [hT] at hR hmi
      clear hcell hT
      go_wp2_with fail
      refine hOf.out.mono ?_
      rintro e w2 ⟨rfl, hw2⟩
      rw [hw2]
      clear hw2 w2
      go_wp2_with fail
      clear c0
      go_loopg [5, 7] (S.cl i - q i).toNat (fun gk s5 s7 wr => ∃ (j : Nat), s7 = .int .i64 (q i + 1 + (j : Int)) ∧ j ≤ (S.cl i - q i).toNat ∧ gk = (S.cl i - q i).toNat - j ∧ RowAt 154 15 s5 (opRow (T ++ missO S q i j)) wr ∧ w1.grownBy wr none ∧ (∀ g, s5.ownBlock = some g → w1.heap.size ≤ g))
      case atStart => exact ⟨0, by simp, by omega, rfl, by simpa [missO] using hR, hg, hO⟩
      case round =>
        clear hR hg hO hS2 kq
        obtain ⟨j, rfl, hjl, hgk, hR, hg, hO⟩ := hrel
        have hS2 := hS1.grown hg
        have hcell : wr.cell? ⟨sb, 2 + (((i : Int) + 1).toNat - 1), none⟩ = some (.int .i64 (S.cl i)) := by
          have e : 2 + (((i : Int) + 1).toNat - 1) = 2 + i := by omega
          rw [e]; exact hS2.clock i (by omega)
        have hOf := hide (of_any sb 2 ((i : Int) + 1) (by omega) (by omega) (S.cl i) wr hcell)
        clear hcell
        by_cases hjt : j < (S.cl i - q i).toNat
        · have hle : q i + 1 + (j : Int) ≤ S.cl i := by omega
          obtain ⟨x, hx, e1, e2⟩ := ho.at hlt (k := q i + 1 + (j : Int)) (by omega) hle
          obtain ⟨E, hE, hAI⟩ := hS2.app
          have hlk : look ((i : Int) + 1) (q i + 1 + (j : Int)) E = some (.agg x.arr) := by rw [hAI, e2]; rfl
          have hLk := lookOp hE ((i : Int) + 1) (q i + 1 + (j : Int)) hlk
          unfold OpR.arr opArr at hLk
          have c4 : wr.cell? ⟨sb, 11, none⟩ = some (.map (some ma)) := cell_blk hS2.st 11
          have hml2 := missO_len ho hlt q hqi.1 j (by omega)
          have hw2 : IntKind.i64.wrap (q i + 1 + (j : Int) + 1) = q i + 1 + ((j + 1 : Nat) : Int) := by rw [IntKind.wrap_i64]; omega
          have g3 : wr.grownBy (wr.alloc (.cells #[.int .i64 x.o, .int .i64 x.num, .int .i64 x.c, .int .i64 x.kind, .int .i64 x.tc, .int .i64 x.tk, .int .i32 x.r, .int .i64 (x.q 0), .int .i64 (x.q 1), .int .i64 (x.q 2), .int .i64 (x.q 3), .int .i64 (x.q 4), .int .i64 (x.q 5), .int .i64 (x.q 6), .int .i64 (x.q 7)] 154)) none := grown_alloc (grown_refl _) _
          have hSr : SrcAt (wr.alloc (.cells #[.int .i64 x.o, .int .i64 x.num, .int .i64 x.c, .int .i64 x.kind, .int .i64 x.tc, .int .i64 x.tk, .int .i32 x.r, .int .i64 (x.q 0), .int .i64 (x.q 1), .int .i64 (x.q 2), .int .i64 (x.q 3), .int .i64 (x.q 4), .int .i64 (x.q 5), .int .i64 (x.q 6), .int .i64 (x.q 7)] 154)) (.slice (some ⟨wr.heap.size, 0, none⟩) 1 1) (opRow [x]) := src_new wr x.arr.toList _
          have hR3 := hR.grown g3
          have hG3 := grown_trans hg g3
          have lr : (opRow (T ++ missO S q i j)).length ≤ 2000 := by rw [opRow_len, List.length_append, hml2]; omega
          have l1 : (opRow [x]).length = 1 := rfl
          clear hlk e2 hE hAI hml2
          go_wp2_with fail
          refine hOf.out.mono ?_
          rintro e w2 ⟨rfl, hw2⟩
          rw [hw2]
          clear hw2 w2
          go_wp2_with (at_builtin; refine wpList_row Tryz.underlying141 infoOpP rfl (by decide) rfl _ _ rfl u5 _ rfl hR3 _ _ rfl hSr (opRow_one _) (opRow_cell _) (by unfold maxLen; omega) (by omega) ?_; intro v5 w5 hR5 hg5 hat)
          go_roundg ((S.cl i - q i).toNat - (j + 1))
          case measure => omega
          case rel =>
            refine ⟨j + 1, rfl, by omega, rfl, ?_, ((Fr.ofGrown hG3).grown hg5 (fun k hk => .inr (hO k hk)) : Fr [] w1 w5).toGrown, fun g hg => ?_⟩
            · rw [missO_succ, e1, ← List.append_assoc]
              have : opRow (T ++ missO S q i j ++ [x]) = opRow (T ++ missO S q i j) ++ opRow [x] := by simp [opRow]
              rw [this]; exact hR5
            · rcases hat with hat | hat
              · exact hO g (hat ▸ hg)
              · rw [hat] at hg; cases hg; exact hG3.size
        · have hle : ¬ q i + 1 + (j : Int) ≤ S.cl i := by omega
          have hje : j = (S.cl i - q i).toNat := by omega
          have HJ := hide hje
          clear hje
          go_wp2_with fail
          refine hOf.out.mono ?_
          rintro e w2 ⟨rfl, hw2⟩
          rw [hw2]
          clear hw2 w2
          go_wp2_with fail
          go_roundg (S.n - (i + 1))
          case measure => omega
          case rel => exact ⟨i + 1, by go_num, by omega, rfl, by rw [missTo_succ, HT.out, ← HJ.out]; exact hR, hg, hO⟩
    · obtain rfl : i = S.n := by omega
      have hlf : ¬ (S.n : Int) + 1 ≤ (S.n : Int) := by omega
      go_wp2_with fail
      go_ret
      exact ⟨_, rfl, hR, grown_trans g1 hg⟩

end Go.Proofs.YtachmkhbbbmioaaGreat

namespace Go.Proofs.YtachmkhbbbmioaaGreat
open Go.RowKit Go.Shelf

set_option maxRecDepth 100000 in
set_option maxHeartbeats 4000000 in
theorem stTickP (sb ma mp lb mb : Nat) (S : CS) (hG : Good S) (w : World) (hS : StAt sb ma mp lb mb S w) :
    Calls Tryz.prog 63 #[.pointer (some ⟨sb, 0, none⟩)] w fun e w' => e = .returned (str (digest S.n S.s S.cl)) ∧ w.grownBy w' none := by
  have h8 := hG.n8
  have hs1 := hG.s1
  have hsn := hG.sn
  have hst := hS.st
  unfold stArr at hst
  have c0 : w.cell? ⟨sb, 0, none⟩ = some (.int .i64 S.n) := cell_blk hst 0
  have c1 : w.cell? ⟨sb, 1, none⟩ = some (.int .i64 S.s) := cell_blk hst 1
  have c2 : w.cell? ⟨sb, 2, none⟩ = some (.int .i64 (S.cl 0)) := cell_blk hst 2
  have c3 : w.cell? ⟨sb, 3, none⟩ = some (.int .i64 (S.cl 1)) := cell_blk hst 3
  have c4 : w.cell? ⟨sb, 4, none⟩ = some (.int .i64 (S.cl 2)) := cell_blk hst 4
  have c5 : w.cell? ⟨sb, 5, none⟩ = some (.int .i64 (S.cl 3)) := cell_blk hst 5
  have c6 : w.cell? ⟨sb, 6, none⟩ = some (.int .i64 (S.cl 4)) := cell_blk hst 6
  have c7 : w.cell? ⟨sb, 7, none⟩ = some (.int .i64 (S.cl 5)) := cell_blk hst 7
  have c8 : w.cell? ⟨sb, 8, none⟩ = some (.int .i64 (S.cl 6)) := cell_blk hst 8
  have c9 : w.cell? ⟨sb, 9, none⟩ = some (.int .i64 (S.cl 7)) := cell_blk hst 9
  have HW := hide (writeDigP S.n h8 S.s (by omega) (by omega) S.cl (fun i hi => hG.cl i (by omega)) w.drew)
  unfold ckArr at HW
  generalize digest S.n S.s S.cl = D at HW ⊢
  clear hst hS
  go_enter Tryz.func63, Tryz.ntmps63
  go_wp2_with fail
  go_region_held3 (fun w' => w'.cell? ⟨sb, 0, none⟩ = some (.int .i64 S.n) ∧ w'.cell? ⟨sb, 1, none⟩ = some (.int .i64 S.s) ∧ w'.cell? ⟨sb, 2, none⟩ = some (.int .i64 (S.cl 0)) ∧ w'.cell? ⟨sb, 3, none⟩ = some (.int .i64 (S.cl 1)) ∧ w'.cell? ⟨sb, 4, none⟩ = some (.int .i64 (S.cl 2)) ∧ w'.cell? ⟨sb, 5, none⟩ = some (.int .i64 (S.cl 3)) ∧ w'.cell? ⟨sb, 6, none⟩ = some (.int .i64 (S.cl 4)) ∧ w'.cell? ⟨sb, 7, none⟩ = some (.int .i64 (S.cl 5)) ∧ w'.cell? ⟨sb, 8, none⟩ = some (.int .i64 (S.cl 6)) ∧ w'.cell? ⟨sb, 9, none⟩ = some (.int .i64 (S.cl 7)))
    (first | go_keep | exact ⟨ck _ _ c0, ck _ _ c1, ck _ _ c2, ck _ _ c3, ck _ _ c4, ck _ _ c5, ck _ _ c6, ck _ _ c7, ck _ _ c8, ck _ _ c9⟩)
    (first | (go_at_call 86; refine HW.out.mono ?_; rintro e w1 ⟨rfl, hg⟩; have ck : ∀ (a : Addr) (x : Value), w.cell? a = some x → w1.cell? a = some x := fun a x hx => cell_of_grown hx (grown_trans (grown_drew (grown_refl w)) hg)))
  all_goals
    go_wp2_with fail
    go_ret
    exact ⟨rfl, grown_trans (grown_drew (grown_refl w)) hg⟩

theorem missO_congr (S : CS) {q q' : Nat → Int} {i : Nat} (h : q i = q' i) (m : Nat) : missO S q i m = missO S q' i m := by unfold missO; rw [h]
theorem miss_part (S : CS) (q : Nat → Int) : miss S (partCk q S.n) = miss S q := by
  unfold miss missTo
  rw [List.flatMap_def, List.flatMap_def]
  congr 1
  apply List.map_congr_left
  intro i hi
  have h1 : partCk q S.n i = q i := by unfold partCk; rw [if_pos (List.mem_range.1 hi)]
  rw [h1]
  exact missO_congr S h1 _

set_option maxRecDepth 100000 in
set_option maxHeartbeats 4000000 in
theorem stHandP (sb ma mp lb mb : Nat) (S : CS) (hG : Good S) (ho : OpsOk S) (s : Int) (hs1 : 1 ≤ s) (hsn : s ≤ S.n) (q : Nat → Int) (hq : ∀ i, i < S.n → 0 ≤ q i ∧ q i ≤ 100) (w : World) (hS : StAt sb ma mp lb mb S w) :
    Calls Tryz.prog 64 #[.pointer (some ⟨sb, 0, none⟩), str (digest S.n s q)] w fun e w' => ∃ v', e = .returned (.tuple #[v', .int .i64 0]) ∧ RowAt 9 1 v' (strRow (answers S.n (miss S q))) w' ∧ w.grownBy w' none ∧ (∀ g, v'.ownBlock = some g → w.heap.size ≤ g) := by
  have h8 := hG.n8
  have c0 : w.cell? ⟨sb, 0, none⟩ = some (.int .i64 S.n) := cell_blk hS.st 0
  have HR := hide (readT S.n h8 s hs1 hsn q hq w)
  have hBy := fun (w' : World) (hw : StAt sb ma mp lb mb S w') => beyondP sb ma mp lb mb S hG ho (partCk q S.n) (fun i hi => by unfold partCk; rw [if_pos hi]; exact hq i hi) w' hw
  rw [miss_part] at hBy
  have hml := missTo_len hG ho q (fun i hi => (hq i hi).1) S.n (Nat.le_refl _)
  have hWb := fun (v : Value) (w' : World) (hv : RowAt 154 15 v (opRow (miss S q)) w') => writeBsP S.n h8 (miss S q) (by show (missTo S q S.n).length ≤ 1000; omega) (fun x hx => (ho.ok x (miss_mem hx)).1) v w' hv
  unfold ckArr at hBy
  unfold frArr at HR
  generalize answers S.n (miss S q) = AN at hWb ⊢
  generalize miss S q = MS at hBy hWb
  generalize partCk q S.n = qq at HR hBy
  generalize digest S.n s q = D at HR ⊢
  have HBy := hide hBy
  have HWb := hide hWb
  clear hBy hWb hml hq
  go_enter Tryz.func64, Tryz.ntmps64
  go_wp2_with fail
  refine HR.out.mono ?_
  rintro e w1 ⟨rfl, g1⟩
  have hS1 := hS.grown g1
  go_upto_region 2 with fail
  have g2 : w1.grownBy (w1.alloc (.cells #[.int .i64 0, .int .i64 s, .int .i64 (qq 0), .int .i64 (qq 1), .int .i64 (qq 2), .int .i64 (qq 3), .int .i64 (qq 4), .int .i64 (qq 5), .int .i64 (qq 6), .int .i64 (qq 7), .slice none 0 0] 143)) none := grown_alloc (grown_refl _) _
  have k2 : (w1.alloc (.cells #[.int .i64 0, .int .i64 s, .int .i64 (qq 0), .int .i64 (qq 1), .int .i64 (qq 2), .int .i64 (qq 3), .int .i64 (qq 4), .int .i64 (qq 5), .int .i64 (qq 6), .int .i64 (qq 7), .slice none 0 0] 143)).heap[w1.heap.size]? = some (.cells #[.int .i64 0, .int .i64 s, .int .i64 (qq 0), .int .i64 (qq 1), .int .i64 (qq 2), .int .i64 (qq 3), .int .i64 (qq 4), .int .i64 (qq 5), .int .i64 (qq 6), .int .i64 (qq 7), .slice none 0 0] 143) := by rw [heap_alloc_at]; simp
  generalize (w1.alloc (.cells #[.int .i64 0, .int .i64 s, .int .i64 (qq 0), .int .i64 (qq 1), .int .i64 (qq 2), .int .i64 (qq 3), .int .i64 (qq 4), .int .i64 (qq 5), .int .i64 (qq 6), .int .i64 (qq 7), .slice none 0 0] 143)) = w2 at g2 k2 ⊢
  generalize w1.heap.size = bf at k2 ⊢
  have hS2 := hS1.grown g2
  have gA := grown_trans g1 g2
  have a0 : w2.cell? ⟨sb, 0, none⟩ = some (.int .i64 S.n) := cell_blk hS2.st 0
  have d0 : w2.cell? ⟨bf, 0, none⟩ = some (.int .i64 0) := cell_blk k2 0
  have d2 : w2.cell? ⟨bf, 2, none⟩ = some (.int .i64 (qq 0)) := cell_blk k2 2
  have d3 : w2.cell? ⟨bf, 3, none⟩ = some (.int .i64 (qq 1)) := cell_blk k2 3
  have d4 : w2.cell? ⟨bf, 4, none⟩ = some (.int .i64 (qq 2)) := cell_blk k2 4
  have d5 : w2.cell? ⟨bf, 5, none⟩ = some (.int .i64 (qq 3)) := cell_blk k2 5
  have d6 : w2.cell? ⟨bf, 6, none⟩ = some (.int .i64 (qq 4)) := cell_blk k2 6
  have d7 : w2.cell? ⟨bf, 7, none⟩ = some (.int .i64 (qq 5)) := cell_blk k2 7
  have d8 : w2.cell? ⟨bf, 8, none⟩ = some (.int .i64 (qq 6)) := cell_blk k2 8
  have d9 : w2.cell? ⟨bf, 9, none⟩ = some (.int .i64 (qq 7)) := cell_blk k2 9
  have HB2 := hide (HBy.out w2.drew (hS2.grown (grown_drew (grown_refl w2))))
  clear c0 HR HBy hS1 hS k2 g1 g2
  go_upto_region 7 with fail
  go_region_held3 (fun w' => w'.cell? ⟨sb, 0, none⟩ = some (.int .i64 S.n) ∧ w'.cell? ⟨bf, 2, none⟩ = some (.int .i64 (qq 0)) ∧ w'.cell? ⟨bf, 3, none⟩ = some (.int .i64 (qq 1)) ∧ w'.cell? ⟨bf, 4, none⟩ = some (.int .i64 (qq 2)) ∧ w'.cell? ⟨bf, 5, none⟩ = some (.int .i64 (qq 3)) ∧ w'.cell? ⟨bf, 6, none⟩ = some (.int .i64 (qq 4)) ∧ w'.cell? ⟨bf, 7, none⟩ = some (.int .i64 (qq 5)) ∧ w'.cell? ⟨bf, 8, none⟩ = some (.int .i64 (qq 6)) ∧ w'.cell? ⟨bf, 9, none⟩ = some (.int .i64 (qq 7)))
    (first | go_keep | exact ⟨ck _ _ a0, ck _ _ d2, ck _ _ d3, ck _ _ d4, ck _ _ d5, ck _ _ d6, ck _ _ d7, ck _ _ d8, ck _ _ d9⟩)
    (first | (go_at_call 89; refine HB2.out.mono ?_; rintro e w3 ⟨v3, rfl, hR3, g3⟩; have ck : ∀ (a : Addr) (x : Value), w2.cell? a = some x → w3.cell? a = some x := fun a x hx => cell_of_grown hx (grown_trans (grown_drew (grown_refl w2)) g3)) | (go_at_call 88; refine (HWb.out _ _ hR3).mono ?_; rintro e w4 ⟨v4, rfl, hR4, g4, hO4⟩; have ck : ∀ (a : Addr) (x : Value), w2.cell? a = some x → w4.cell? a = some x := fun a x hx => cell_of_grown hx (grown_trans (grown_trans (grown_drew (grown_refl w2)) g3) g4)))
  all_goals
    go_wp2_with fail
    exact bodyPost_ret (v := .tuple #[v4, .int .i64 0]) (by simp [results, Tryz.results64, go_sem]) rfl ⟨v4, rfl, hR4, grown_trans gA (grown_trans (grown_trans (grown_drew (grown_refl w2)) g3) g4), fun g hg => by have := hO4 g hg; have := g3.size; have := gA.size; have : w2.drew.heap.size = w2.heap.size := rfl; omega⟩

end Go.Proofs.YtachmkhbbbmioaaGreat

namespace Go.Proofs.YtachmkhbbbmioaaGreat
open Go.RowKit Go.Shelf Go.MuLone

set_option maxRecDepth 100000 in
set_option maxHeartbeats 1000000 in
theorem face_tick (cb sb ma mp lb mb : Nat) (S : CS) (w : World) (h : CpAt cb sb ma mp lb mb S w) (v : Value) (Post : World → Prop)
    (hin : ∀ w1, w1.heap.size = w.heap.size → StAt sb ma mp lb mb S w1 → Calls Tryz.prog 63 #[.pointer (some ⟨sb, 0, none⟩)] w1 fun e w2 => e = .returned v ∧ Post w2 ∧ Fr (own3 sb ma mb) w1 w2) :
    Calls Tryz.prog 30 #[.pointer (some ⟨cb, 0, none⟩)] w fun e w' => e = .returned v ∧ ∃ w2, Post w2 ∧ w2.heap[cb]? = some (.cells #[.int .i32 1, .int .u32 0, .pointer (some ⟨sb, 0, none⟩)] 112) ∧ w' = w2.setCell ⟨cb, 0, none⟩ (.int .i32 0) ∧ Fr (own4 cb sb ma mb) w w' := by
  have c0 : w.cell? ⟨cb, 0, none⟩ = some (.int .i32 0) := cell_blk h.cp 0
  have f0 : w.frozen? ⟨cb, 0, none⟩ = false := frozen_blk h.cp 0
  obtain ⟨n1, n2, n3, n4, n5⟩ := h.ne
  have hS1 := h.locked (.int .i32 1)
  have k1 : (w.setCell ⟨cb, 0, none⟩ (.int .i32 1)).heap[cb]? = some (.cells #[.int .i32 1, .int .u32 0, .pointer (some ⟨sb, 0, none⟩)] 112) := by rw [set_blk h.cp]; rfl
  have c2 : (w.setCell ⟨cb, 0, none⟩ (.int .i32 1)).cell? ⟨cb, 2, none⟩ = some (.pointer (some ⟨sb, 0, none⟩)) := cell_blk k1 2
  have hF1 : Fr (own4 cb sb ma mb) w (w.setCell ⟨cb, 0, none⟩ (.int .i32 1)) := (Fr.refl _ w).setCell (.inl (by simp)) _
  have hC := hide (hin (w.setCell ⟨cb, 0, none⟩ (.int .i32 1)) (by simp [World.setCell]) hS1)
  clear hin
  go_enter_defers Tryz.func30, Tryz.ntmps30
  go_wp2_with (go_at_call 59; refine (lock_free muLib ⟨cb, 0, none⟩ _ c0 f0).mono ?_; rintro e w' ⟨rfl, rfl⟩)
  refine hC.out.mono ?_
  rintro e w2 ⟨rfl, hP, hF2⟩
  have k2 : w2.heap[cb]? = some (.cells #[.int .i32 1, .int .u32 0, .pointer (some ⟨sb, 0, none⟩)] 112) := hF2.blk k1 (by simp [n1, n2, n5])
  go_wp2_with fail
  refine leaves_cons (f := 60) (args := #[.pointer (some ⟨cb, 0, none⟩)]) (by simp) (by simp [go_sem]) ?_
  refine (unlock_deferred muLib ⟨cb, 0, none⟩ .returning _ (cell_blk k2 0) (frozen_blk k2 0)).mono ?_
  rintro e u' w3 ⟨rfl, rfl, rfl⟩
  exact ⟨_, results_tmp rfl _ _ _, rfl, w2, hP, k2, rfl, (hF1.trans (hF2.mono (by simp))).setCell (.inl (by simp)) _⟩

set_option maxRecDepth 100000 in
set_option maxHeartbeats 1000000 in
theorem face_hand (cb sb ma mp lb mb : Nat) (S : CS) (D : Value) (w : World) (h : CpAt cb sb ma mp lb mb S w) (Post : Value → World → Prop)
    (hin : ∀ w1, w1.heap.size = w.heap.size → StAt sb ma mp lb mb S w1 → Calls Tryz.prog 64 #[.pointer (some ⟨sb, 0, none⟩), D] w1 fun e w2 => ∃ v, e = .returned (.tuple #[v, .int .i64 0]) ∧ Post v w2 ∧ Fr (own3 sb ma mb) w1 w2) :
    Calls Tryz.prog 31 #[.pointer (some ⟨cb, 0, none⟩), D] w fun e w' => ∃ v, e = .returned (.tuple #[v, .int .i64 0]) ∧ ∃ w2, Post v w2 ∧ w2.heap[cb]? = some (.cells #[.int .i32 1, .int .u32 0, .pointer (some ⟨sb, 0, none⟩)] 112) ∧ w' = w2.setCell ⟨cb, 0, none⟩ (.int .i32 0) ∧ Fr (own4 cb sb ma mb) w w' := by
  have c0 : w.cell? ⟨cb, 0, none⟩ = some (.int .i32 0) := cell_blk h.cp 0
  have f0 : w.frozen? ⟨cb, 0, none⟩ = false := frozen_blk h.cp 0
  obtain ⟨n1, n2, n3, n4, n5⟩ := h.ne
  have hS1 := h.locked (.int .i32 1)
  have k1 : (w.setCell ⟨cb, 0, none⟩ (.int .i32 1)).heap[cb]? = some (.cells #[.int .i32 1, .int .u32 0, .pointer (some ⟨sb, 0, none⟩)] 112) := by rw [set_blk h.cp]; rfl
  have c2 : (w.setCell ⟨cb, 0, none⟩ (.int .i32 1)).cell? ⟨cb, 2, none⟩ = some (.pointer (some ⟨sb, 0, none⟩)) := cell_blk k1 2
  have hF1 : Fr (own4 cb sb ma mb) w (w.setCell ⟨cb, 0, none⟩ (.int .i32 1)) := (Fr.refl _ w).setCell (.inl (by simp)) _
  have hC := hide (hin (w.setCell ⟨cb, 0, none⟩ (.int .i32 1)) (by simp [World.setCell]) hS1)
  clear hin
  go_enter_defers Tryz.func31, Tryz.ntmps31
  go_wp2_with (go_at_call 59; refine (lock_free muLib ⟨cb, 0, none⟩ _ c0 f0).mono ?_; rintro e w' ⟨rfl, rfl⟩)
  refine hC.out.mono ?_
  rintro e w2 ⟨v, rfl, hP, hF2⟩
  have k2 : w2.heap[cb]? = some (.cells #[.int .i32 1, .int .u32 0, .pointer (some ⟨sb, 0, none⟩)] 112) := hF2.blk k1 (by simp [n1, n2, n5])
  go_wp2_with fail
  refine leaves_cons (f := 60) (args := #[.pointer (some ⟨cb, 0, none⟩)]) (by simp) (by simp [go_sem]) ?_
  refine (unlock_deferred muLib ⟨cb, 0, none⟩ .returning _ (cell_blk k2 0) (frozen_blk k2 0)).mono ?_
  rintro e u' w3 ⟨rfl, rfl, rfl⟩
  exact ⟨.tuple #[v, .int .i64 0], by simp [results, Tryz.results31, go_sem], v, rfl, w2, hP, k2, rfl, (hF1.trans (hF2.mono (by simp))).setCell (.inl (by simp)) _⟩

end Go.Proofs.YtachmkhbbbmioaaGreat
