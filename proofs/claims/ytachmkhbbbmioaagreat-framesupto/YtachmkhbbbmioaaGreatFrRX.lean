import Derived.Test.YtachmkhbbbmioaaGreatFrAX
import Derived.Laws.Strings3
import Derived.Test.YtachmkhbbbmioaaGreatRefFX
namespace Go.Proofs.YtachmkhbbbmioaaGreat
open Go.RowKit Go.Shelf

/-- A reader at block rb: of how many copies, what is left, whether something was wrong. -/
def RdAt (rb n : Nat) (l : List UInt8) (bad : Bool) (w : World) : Prop := w.heap[rb]? = some (.cells #[.int .i64 n, str l, .bool bad] 193)

set_option maxRecDepth 100000 in
set_option maxHeartbeats 1000000 in
theorem mustT (rb n : Nat) (l : List UInt8) (w : World) (h : RdAt rb n l false w) :
    Calls Tryz.prog 166 #[.pointer (some ⟨rb, 0, none⟩), .bool true] w fun e w' => e = .returned (.tuple #[]) ∧ RdAt rb n l false w' ∧ Fr [rb] w w' := by
  have c2 : w.cell? ⟨rb, 2, none⟩ = some (.bool false) := cell_blk h 2
  have f2 : w.frozen? ⟨rb, 2, none⟩ = false := frozen_blk h 2
  go_enter Tryz.func166, Tryz.ntmps166
  go_wp2_with fail
  go_end0
  refine ⟨rfl, ?_, (Fr.refl _ w).setCell (.inl (by simp)) _⟩
  unfold RdAt
  rw [set_blk h]; rfl

theorem str_drop (l : List UInt8) (k : Nat) (hk : k ≤ l.length) (w : World) : (Instr.slice 9 (str l) (some (.int .i64 (k : Int))) none none).run Tryz.prog w = .ok (str (l.drop k)) w := by
  rw [run_slice_string_from_if w 9 ⟨l.toArray⟩ .i64 k Tryz.underlying9]
  rw [if_pos (by simp [ByteArray.size]; omega)]
  simp only [ByteArray.extract_mk, Int.toNat_natCast]
  have : ((l.drop k).take ((⟨l.toArray⟩ : ByteArray).size - k)) = l.drop k := List.take_of_length_le (by simp [ByteArray.size])
  rw [this]

theorem or_zero (x : Int) (h0 : 0 ≤ x) (h1 : x < 128) : bits .or .i64 0 x = x := by
  obtain ⟨k, rfl⟩ := Int.eq_ofNat_of_zero_le h0
  have hk : k < 128 := by omega
  show IntKind.i64.wrap ((BitVec.ofInt 64 0 ||| BitVec.ofInt 64 (k : Int)).toNat : Int) = _
  have e : (BitVec.ofInt 64 0 ||| BitVec.ofInt 64 (k : Int)).toNat = k := by
    rw [BitVec.toNat_or]
    simp
    omega
  rw [e, IntKind.wrap_i64]
  omega

set_option maxRecDepth 100000 in
set_option maxHeartbeats 2000000 in
theorem varintT (rb n : Nat) (b : UInt8) (hb : b.toNat < 128) (L : List UInt8) (hL0 : L[0]? = some b) (hl : L.length ≤ 1000) (w : World) (h : RdAt rb n L false w) :
    Calls Tryz.prog 168 #[.pointer (some ⟨rb, 0, none⟩)] w fun e w' => e = .returned (.int .i64 (b.toNat : Int)) ∧ RdAt rb n (L.drop 1) false w' ∧ Fr [rb] w w' := by
  have c1 : w.cell? ⟨rb, 1, none⟩ = some (str L) := cell_blk h 1
  have hlp : 0 < L.length := (List.getElem?_eq_some_iff.1 hL0).1
  have hmn : ∀ w, (Builtin.min_ #[3, 3] 3 #[.int .i64 (L.length : Int), .int .i64 9]).run Tryz.prog w = .ok (.int .i64 (min (L.length : Int) 9)) w := fun w => by
    rw [run_min_int2]
    have : (if (9 : Int) < (L.length : Int) then (9 : Int) else (L.length : Int)) = min (L.length : Int) 9 := by split <;> omega
    rw [this]
  generalize hmm : min (L.length : Int) 9 = m at hmn
  have hm : 0 < m := by omega
  have hx : ∀ w, (Instr.index 9 (str L) (.int .i64 0)).run Tryz.prog w = .ok (.int .u8 (b.toNat : Int)) w := fun w => sindex L 0 b hL0 w
  have hdr : ∀ w, (Instr.slice 9 (str L) (some (.int .i64 1)) none none).run Tryz.prog w = .ok (str (L.drop 1)) w := fun w => str_drop L 1 (by omega) w
  generalize L.drop 1 = D at hdr ⊢
  have hbi : (b.toNat : Int) < 128 := by omega
  have hb0 : (0 : Int) ≤ (b.toNat : Int) := by omega
  have e1 : (b.toNat : Int) % 128 = (b.toNat : Int) := by omega
  have e2 := or_zero (b.toNat : Int) hb0 hbi
  have hM := hide (mustT rb n L w h)
  clear hmm hL0 hb
  generalize (b.toNat : Int) = x at hx hbi hb0 e1 e2 ⊢
  go_enter Tryz.func168, Tryz.ntmps168
  go_wp2_with fail
  go_loopg [3, 12] 1 (fun _ s3 s12 wr => s3 = .int .i64 0 ∧ s12 = .int .i64 0 ∧ wr = w)
  case atStart => exact ⟨rfl, rfl, rfl⟩
  case round =>
    obtain ⟨rfl, rfl, hw⟩ := hrel
    rw [hw]
    clear hw wr
    by_cases hx0 : 0 < x
    · go_wp2_with fail
      refine hM.out.mono ?_
      rintro e w1 ⟨rfl, hR1, hF1⟩
      have d1 : w1.cell? ⟨rb, 1, none⟩ = some (str L) := cell_blk hR1 1
      have f1 : w1.frozen? ⟨rb, 1, none⟩ = false := frozen_blk hR1 1
      go_wp2_with fail
      go_ret
      refine ⟨rfl, ?_, hF1.setCell (.inl (by simp)) _⟩
      unfold RdAt
      rw [set_blk hR1]; rfl
    · have hx00 : x = 0 := by omega
      subst hx00
      go_wp2_with fail
      refine hM.out.mono ?_
      rintro e w1 ⟨rfl, hR1, hF1⟩
      have d1 : w1.cell? ⟨rb, 1, none⟩ = some (str L) := cell_blk hR1 1
      have f1 : w1.frozen? ⟨rb, 1, none⟩ = false := frozen_blk hR1 1
      go_wp2_with fail
      go_ret
      refine ⟨rfl, ?_, hF1.setCell (.inl (by simp)) _⟩
      unfold RdAt
      rw [set_blk hR1]; rfl

set_option maxRecDepth 100000 in
set_option maxHeartbeats 2000000 in
theorem numberT (rb n : Nat) (lo hi : Int) (b : UInt8) (hb : b.toNat < 128) (h1 : lo ≤ (b.toNat : Int)) (h2 : (b.toNat : Int) ≤ hi) (L : List UInt8) (hL0 : L[0]? = some b) (hl : L.length ≤ 1000) (w : World) (h : RdAt rb n L false w) :
    Calls Tryz.prog 163 #[.pointer (some ⟨rb, 0, none⟩), .int .i64 lo, .int .i64 hi] w fun e w' => e = .returned (.int .i64 (b.toNat : Int)) ∧ RdAt rb n (L.drop 1) false w' ∧ Fr [rb] w w' := by
  have hV := hide (varintT rb n b hb L hL0 hl w h)
  generalize (b.toNat : Int) = x at h1 h2 hV ⊢
  generalize L.drop 1 = D at hV ⊢
  have hM := hide (fun (w1 : World) (h1 : RdAt rb n D false w1) => mustT rb n D w1 h1)
  go_enter Tryz.func163, Tryz.ntmps163
  go_wp2_with fail
  refine hV.out.mono ?_
  rintro e w1 ⟨rfl, hR1, hF1⟩
  go_wp2_with fail
  refine (hM.out w1 hR1).mono ?_
  rintro e w2 ⟨rfl, hR2, hF2⟩
  have d2 : w2.cell? ⟨rb, 2, none⟩ = some (.bool false) := cell_blk hR2 2
  go_wp2_with fail
  go_ret
  exact ⟨rfl, hR2, hF1.trans hF2⟩

set_option maxRecDepth 100000 in
set_option maxHeartbeats 2000000 in
theorem smallT (rb n : Nat) (lo hi : Int) (b : UInt8) (hb : b.toNat < 128) (h1 : lo ≤ (b.toNat : Int)) (h2 : (b.toNat : Int) ≤ hi) (L : List UInt8) (hL0 : L[0]? = some b) (hl : L.length ≤ 1000) (w : World) (h : RdAt rb n L false w) :
    Calls Tryz.prog 151 #[.pointer (some ⟨rb, 0, none⟩), .int .i64 lo, .int .i64 hi] w fun e w' => e = .returned (.int .i64 (b.toNat : Int)) ∧ RdAt rb n (L.drop 1) false w' ∧ Fr [rb] w w' := by
  have hV := hide (numberT rb n lo hi b hb h1 h2 L hL0 hl w h)
  generalize (b.toNat : Int) = x at hV ⊢
  generalize L.drop 1 = D at hV ⊢
  go_enter Tryz.func151, Tryz.ntmps151
  go_wp2_with fail
  refine hV.out.mono ?_
  rintro e w1 ⟨rfl, hR1, hF1⟩
  go_wp2_with fail
  go_ret
  exact ⟨rfl, hR1, hF1⟩

/-- Bytes that are varints of small numbers. -/
def smalls (n : Nat) (q : Nat → Int) : List UInt8 := (List.range n).map fun i => UInt8.ofNat (q i).toNat
theorem smalls_vbs (n : Nat) (q : Nat → Int) (hq : ∀ i, i < n → 0 ≤ q i ∧ q i ≤ 100) : vbs (clk n q) = smalls n q := by
  induction n with
  | zero => rfl
  | succ n ih =>
    have h1 := hq n (by omega)
    rw [clk_succ, ih (fun i hi => hq i (by omega)), vb_small (by omega)]
    unfold smalls
    rw [List.range_succ, List.map_append]; rfl
theorem smalls_len (n : Nat) (q : Nat → Int) : (smalls n q).length = n := by simp [smalls]
theorem smalls_at {n i : Nat} (q : Nat → Int) (h : i < n) : (smalls n q)[i]? = some (UInt8.ofNat (q i).toNat) := by simp [smalls, h]
theorem small_nat {x : Int} (h0 : 0 ≤ x) (h1 : x ≤ 100) : ((UInt8.ofNat x.toNat).toNat : Int) = x := by
  have : (UInt8.ofNat x.toNat).toNat = x.toNat := by simp; omega
  omega

/-- A clock of which the first i numbers are read. -/
def partCk (q : Nat → Int) (i : Nat) : Nat → Int := fun j => if j < i then q j else 0

theorem partCk_set (q : Nat → Int) : ∀ i, i < 8 → (ckArr (partCk q i)).setIfInBounds i (.int .i64 (q i)) = ckArr (partCk q (i + 1))
  | 0, _ => by simp [ckArr, partCk]
  | 1, _ => by simp [ckArr, partCk]
  | 2, _ => by simp [ckArr, partCk]
  | 3, _ => by simp [ckArr, partCk]
  | 4, _ => by simp [ckArr, partCk]
  | 5, _ => by simp [ckArr, partCk]
  | 6, _ => by simp [ckArr, partCk]
  | 7, _ => by simp [ckArr, partCk]
  | _ + 8, h => by omega

set_option maxRecDepth 100000 in
set_option maxHeartbeats 4000000 in
theorem clockT (rb n : Nat) (h8 : n ≤ 8) (q : Nat → Int) (hq : ∀ i, i < n → 0 ≤ q i ∧ q i ≤ 100) (w : World) (h : RdAt rb n (smalls n q) false w) :
    Calls Tryz.prog 152 #[.pointer (some ⟨rb, 0, none⟩)] w fun e w' => e = .returned (.agg (ckArr (partCk q n))) ∧ RdAt rb n [] false w' ∧ Fr [rb] w w' := by
  have hrlt : rb < w.heap.size := lt_of_heap h
  go_enter Tryz.func152, Tryz.ntmps152
  go_upto_region 2 with fail
  have g1 : w.grownBy ((w.alloc (.cells #[.int .i64 0, .int .i64 0, .int .i64 0, .int .i64 0, .int .i64 0, .int .i64 0, .int .i64 0, .int .i64 0] 134)).alloc (.cells #[.int .i64 0, .int .i64 0, .int .i64 0, .int .i64 0, .int .i64 0, .int .i64 0, .int .i64 0, .int .i64 0] 134)) none := grown_alloc (grown_alloc (grown_refl _) _) _
  have k2 : ((w.alloc (.cells #[.int .i64 0, .int .i64 0, .int .i64 0, .int .i64 0, .int .i64 0, .int .i64 0, .int .i64 0, .int .i64 0] 134)).alloc (.cells #[.int .i64 0, .int .i64 0, .int .i64 0, .int .i64 0, .int .i64 0, .int .i64 0, .int .i64 0, .int .i64 0] 134)).heap[w.heap.size]? = some (.cells #[.int .i64 0, .int .i64 0, .int .i64 0, .int .i64 0, .int .i64 0, .int .i64 0, .int .i64 0, .int .i64 0] 134) := by simp only [heap_alloc_at, World.size_alloc]; simp
  have k3 : ((w.alloc (.cells #[.int .i64 0, .int .i64 0, .int .i64 0, .int .i64 0, .int .i64 0, .int .i64 0, .int .i64 0, .int .i64 0] 134)).alloc (.cells #[.int .i64 0, .int .i64 0, .int .i64 0, .int .i64 0, .int .i64 0, .int .i64 0, .int .i64 0, .int .i64 0] 134)).heap[w.heap.size + 1]? = some (.cells #[.int .i64 0, .int .i64 0, .int .i64 0, .int .i64 0, .int .i64 0, .int .i64 0, .int .i64 0, .int .i64 0] 134) := by simp only [heap_alloc_at, World.size_alloc]; simp
  generalize ((w.alloc (.cells #[.int .i64 0, .int .i64 0, .int .i64 0, .int .i64 0, .int .i64 0, .int .i64 0, .int .i64 0, .int .i64 0] 134)).alloc (.cells #[.int .i64 0, .int .i64 0, .int .i64 0, .int .i64 0, .int .i64 0, .int .i64 0, .int .i64 0, .int .i64 0] 134)) = w1 at g1 k2 k3 ⊢
  have hR1 : RdAt rb n (smalls n q) false w1 := (g1.block _ hrlt (by simp)).trans h
  have hF1 : Fr [rb] w w1 := Fr.ofGrown g1
  obtain ⟨b2, hb2⟩ : ∃ b, w.heap.size = b := ⟨_, rfl⟩
  rw [hb2] at k2 k3 ⊢
  have n1 : rb ≠ b2 := by omega
  have n2 : rb ≠ b2 + 1 := by omega
  have c0 : w1.cell? ⟨rb, 0, none⟩ = some (.int .i64 n) := cell_blk hR1 0
  have k3' : w1.heap[b2 + 1]? = some (.cells (ckArr (partCk q 0)) 134) := by rw [k3]; simp [ckArr, partCk]
  clear h k3 g1
  go_wp2_with fail
  clear c0
  go_loopg [9] n (fun gk s9 wr => ∃ (i : Nat), s9 = .int .i64 i ∧ i ≤ n ∧ gk = n - i ∧ RdAt rb n ((smalls n q).drop i) false wr ∧ wr.heap[b2 + 1]? = some (.cells (ckArr (partCk q i)) 134) ∧ wr.heap[b2]? = some (.cells #[.int .i64 0, .int .i64 0, .int .i64 0, .int .i64 0, .int .i64 0, .int .i64 0, .int .i64 0, .int .i64 0] 134) ∧ Fr [rb] w wr)
  case atStart => exact ⟨0, rfl, by omega, rfl, hR1, k3', k2, hF1⟩
  case round =>
    clear hR1 k3' k2 hF1
    obtain ⟨i, rfl, hil, hgk, hR, k3, k2, hF⟩ := hrel
    by_cases hlt : i < n
    · have hli : (i : Int) < (n : Int) := by omega
      have hqi := hq i hlt
      have hnn := small_nat hqi.1 hqi.2
      have HS := hide (smallT rb n 0 100 (UInt8.ofNat (q i).toNat) (by omega) (by omega) (by omega) ((smalls n q).drop i) (by rw [List.getElem?_drop]; exact smalls_at q hlt) (by simp [smalls_len]; omega) wr hR)
      rw [hnn, List.drop_drop] at HS
      have hi8 : (i : Int) < 8 := by omega
      go_wp2_with fail
      refine HS.out.mono ?_
      rintro e w2 ⟨rfl, hR2, hF2⟩
      have k32 := hF2.blk k3 (by simpa using Ne.symm n2)
      have k22 := hF2.blk k2 (by simpa using Ne.symm n1)
      have d3 : w2.cell? ⟨b2 + 1, i, none⟩ = some (.int .i64 (partCk q i i)) := (cell_blk k32 i).trans (ckArr_at _ i (by omega))
      have f3 : w2.frozen? ⟨b2 + 1, i, none⟩ = false := frozen_blk k32 i
      go_wp2_with fail
      go_roundg (n - (i + 1))
      case measure => omega
      case rel =>
        refine ⟨i + 1, by go_num, by omega, rfl, ?_, ?_, ?_, (hF.trans hF2).setCell (.inr (by simp; omega)) _⟩
        · unfold RdAt at hR2 ⊢
          rw [Below.heap_setCell _ _ _ _ n2]; exact hR2
        · rw [set_blk k32, partCk_set q i (by omega)]
        · rw [Below.heap_setCell _ _ _ _ (by simp)]; exact k22
    · obtain rfl : i = n := by omega
      rw [List.drop_of_length_le (by rw [smalls_len]; omega)] at hR
      unfold ckArr at k3
      have d0 : wr.cell? ⟨b2 + 1, 0, none⟩ = some (.int .i64 (partCk q i 0)) := cell_blk k3 0
      have d1 : wr.cell? ⟨b2 + 1, 1, none⟩ = some (.int .i64 (partCk q i 1)) := cell_blk k3 1
      have d2 : wr.cell? ⟨b2 + 1, 2, none⟩ = some (.int .i64 (partCk q i 2)) := cell_blk k3 2
      have d3 : wr.cell? ⟨b2 + 1, 3, none⟩ = some (.int .i64 (partCk q i 3)) := cell_blk k3 3
      have d4 : wr.cell? ⟨b2 + 1, 4, none⟩ = some (.int .i64 (partCk q i 4)) := cell_blk k3 4
      have d5 : wr.cell? ⟨b2 + 1, 5, none⟩ = some (.int .i64 (partCk q i 5)) := cell_blk k3 5
      have d6 : wr.cell? ⟨b2 + 1, 6, none⟩ = some (.int .i64 (partCk q i 6)) := cell_blk k3 6
      have d7 : wr.cell? ⟨b2 + 1, 7, none⟩ = some (.int .i64 (partCk q i 7)) := cell_blk k3 7
      have e0 : wr.cell? ⟨b2, 0, none⟩ = some (.int .i64 0) := cell_blk k2 0
      have f0 : wr.frozen? ⟨b2, 0, none⟩ = false := frozen_blk k2 0
      have e1 : wr.cell? ⟨b2, 1, none⟩ = some (.int .i64 0) := cell_blk k2 1
      have f1 : wr.frozen? ⟨b2, 1, none⟩ = false := frozen_blk k2 1
      have e2 : wr.cell? ⟨b2, 2, none⟩ = some (.int .i64 0) := cell_blk k2 2
      have f2 : wr.frozen? ⟨b2, 2, none⟩ = false := frozen_blk k2 2
      have e3 : wr.cell? ⟨b2, 3, none⟩ = some (.int .i64 0) := cell_blk k2 3
      have f3 : wr.frozen? ⟨b2, 3, none⟩ = false := frozen_blk k2 3
      have e4 : wr.cell? ⟨b2, 4, none⟩ = some (.int .i64 0) := cell_blk k2 4
      have f4 : wr.frozen? ⟨b2, 4, none⟩ = false := frozen_blk k2 4
      have e5 : wr.cell? ⟨b2, 5, none⟩ = some (.int .i64 0) := cell_blk k2 5
      have f5 : wr.frozen? ⟨b2, 5, none⟩ = false := frozen_blk k2 5
      have e6 : wr.cell? ⟨b2, 6, none⟩ = some (.int .i64 0) := cell_blk k2 6
      have f6 : wr.frozen? ⟨b2, 6, none⟩ = false := frozen_blk k2 6
      have e7 : wr.cell? ⟨b2, 7, none⟩ = some (.int .i64 0) := cell_blk k2 7
      have f7 : wr.frozen? ⟨b2, 7, none⟩ = false := frozen_blk k2 7
      go_wp2_with fail
      have hF8 : Fr [rb] w ((((((((wr.setCell ⟨b2, 0, none⟩ (.int .i64 (partCk q i 0))).setCell ⟨b2, 1, none⟩ (.int .i64 (partCk q i 1))).setCell ⟨b2, 2, none⟩ (.int .i64 (partCk q i 2))).setCell ⟨b2, 3, none⟩ (.int .i64 (partCk q i 3))).setCell ⟨b2, 4, none⟩ (.int .i64 (partCk q i 4))).setCell ⟨b2, 5, none⟩ (.int .i64 (partCk q i 5))).setCell ⟨b2, 6, none⟩ (.int .i64 (partCk q i 6))).setCell ⟨b2, 7, none⟩ (.int .i64 (partCk q i 7))) := by
        iterate 8 refine Fr.setCell ?_ (.inr (by simp; omega)) _
        exact hF
      have hR8 : RdAt rb i [] false ((((((((wr.setCell ⟨b2, 0, none⟩ (.int .i64 (partCk q i 0))).setCell ⟨b2, 1, none⟩ (.int .i64 (partCk q i 1))).setCell ⟨b2, 2, none⟩ (.int .i64 (partCk q i 2))).setCell ⟨b2, 3, none⟩ (.int .i64 (partCk q i 3))).setCell ⟨b2, 4, none⟩ (.int .i64 (partCk q i 4))).setCell ⟨b2, 5, none⟩ (.int .i64 (partCk q i 5))).setCell ⟨b2, 6, none⟩ (.int .i64 (partCk q i 6))).setCell ⟨b2, 7, none⟩ (.int .i64 (partCk q i 7))) := by
        unfold RdAt at hR ⊢
        iterate 8 rw [Below.heap_setCell _ _ _ _ n1]
        exact hR
      have hk8 : ((((((((wr.setCell ⟨b2, 0, none⟩ (.int .i64 (partCk q i 0))).setCell ⟨b2, 1, none⟩ (.int .i64 (partCk q i 1))).setCell ⟨b2, 2, none⟩ (.int .i64 (partCk q i 2))).setCell ⟨b2, 3, none⟩ (.int .i64 (partCk q i 3))).setCell ⟨b2, 4, none⟩ (.int .i64 (partCk q i 4))).setCell ⟨b2, 5, none⟩ (.int .i64 (partCk q i 5))).setCell ⟨b2, 6, none⟩ (.int .i64 (partCk q i 6))).setCell ⟨b2, 7, none⟩ (.int .i64 (partCk q i 7))).heap[b2]? = some (.cells (ckArr (partCk q i)) 134) := set8_blk k2
      generalize ((((((((wr.setCell ⟨b2, 0, none⟩ (.int .i64 (partCk q i 0))).setCell ⟨b2, 1, none⟩ (.int .i64 (partCk q i 1))).setCell ⟨b2, 2, none⟩ (.int .i64 (partCk q i 2))).setCell ⟨b2, 3, none⟩ (.int .i64 (partCk q i 3))).setCell ⟨b2, 4, none⟩ (.int .i64 (partCk q i 4))).setCell ⟨b2, 5, none⟩ (.int .i64 (partCk q i 5))).setCell ⟨b2, 6, none⟩ (.int .i64 (partCk q i 6))).setCell ⟨b2, 7, none⟩ (.int .i64 (partCk q i 7))) = w8 at hF8 hR8 hk8 ⊢
      clear d0 d1 d2 d3 d4 d5 d6 d7 e0 e1 e2 e3 e4 e5 e6 e7 f0 f1 f2 f3 f4 f5 f6 f7
      unfold ckArr at hk8
      have d0 : w8.cell? ⟨b2, 0, none⟩ = some (.int .i64 (partCk q i 0)) := cell_blk hk8 0
      have d1 : w8.cell? ⟨b2, 1, none⟩ = some (.int .i64 (partCk q i 1)) := cell_blk hk8 1
      have d2 : w8.cell? ⟨b2, 2, none⟩ = some (.int .i64 (partCk q i 2)) := cell_blk hk8 2
      have d3 : w8.cell? ⟨b2, 3, none⟩ = some (.int .i64 (partCk q i 3)) := cell_blk hk8 3
      have d4 : w8.cell? ⟨b2, 4, none⟩ = some (.int .i64 (partCk q i 4)) := cell_blk hk8 4
      have d5 : w8.cell? ⟨b2, 5, none⟩ = some (.int .i64 (partCk q i 5)) := cell_blk hk8 5
      have d6 : w8.cell? ⟨b2, 6, none⟩ = some (.int .i64 (partCk q i 6)) := cell_blk hk8 6
      have d7 : w8.cell? ⟨b2, 7, none⟩ = some (.int .i64 (partCk q i 7)) := cell_blk hk8 7
      refine bodyPost_ret (v := .agg (ckArr (partCk q i))) (by simp [results, Tryz.results152, go_sem, ckArr, d0, d1, d2, d3, d4, d5, d6, d7]) rfl ⟨rfl, hR8, hF8⟩

end Go.Proofs.YtachmkhbbbmioaaGreat

namespace Go.Proofs.YtachmkhbbbmioaaGreat
open Go.RowKit Go.Shelf

/-- The bytes of a string, in new memory. -/
theorem str_bytes (l : List UInt8) (w : World) : ∃ c w', (convert 9 69 (str l)).run Tryz.prog w = .ok (.slice (some ⟨w.heap.size, 0, none⟩) l.length c) w' ∧ w.grownBy w' none ∧ w.heap.size < w'.heap.size ∧
    (∀ j b, l[j]? = some b → w'.cell? ⟨w.heap.size, j, none⟩ = some (.int .u8 (b.toNat : Int))) ∧ (l.length + 4 ≤ c → ∀ j, j < 4 → (w'.cell? ⟨w.heap.size, l.length + j, none⟩).isSome = true ∧ w'.frozen? ⟨w.heap.size, l.length + j, none⟩ = false) := by
  have hr := run_bytes_of_string (P := Tryz.prog) w 9 69 5 ⟨l.toArray⟩ Tryz.underlying9 Tryz.underlying69 Tryz.underlying5
  have hsz : (⟨l.toArray⟩ : ByteArray).size = l.length := by simp [ByteArray.size]
  rw [hsz] at hr
  generalize grownCap w l.length 0 5 = c at hr
  have hbs : (bytesRow ⟨l.toArray⟩ c).size = l.length + (c - l.length) := by simp [bytesRow, ByteArray.size]
  have hg : w.grownBy (w.drew.alloc (.cells (bytesRow ⟨l.toArray⟩ c) 5 ((bytesRow ⟨l.toArray⟩ c).size, (bytesRow ⟨l.toArray⟩ c).size + 1))) none := grown_trans (grown_drew (grown_refl w)) (grown_alloc (grown_refl w.drew) _)
  refine ⟨c, _, hr, hg, by simp, fun j b hj => ?_, fun h4 j hj => ⟨?_, ?_⟩⟩
  · rw [show w.heap.size = w.drew.heap.size from rfl, World.cell?_alloc_mark]
    obtain ⟨h1, h2⟩ := List.getElem?_eq_some_iff.1 hj
    rw [bytesRow_at _ c j (by simpa using h1)]
    simp [h2]
  · rw [show w.heap.size = w.drew.heap.size from rfl, World.cell?_alloc_mark, Array.getElem?_eq_getElem (by omega)]; rfl
  · rw [show w.heap.size = w.drew.heap.size from rfl, World.frozen?_alloc_mark]
    have : ¬ (bytesRow ⟨l.toArray⟩ c).size ≤ l.length + j := by omega
    simp [this]

theorem str_take (l : List UInt8) (k : Nat) (hk : k ≤ l.length) (w : World) : (Instr.slice 9 (str l) none (some (.int .i64 (k : Int))) none).run Tryz.prog w = .ok (str (l.take k)) w := by
  rw [run_slice_string_to_if w 9 ⟨l.toArray⟩ .i64 k Tryz.underlying9]
  rw [if_pos (by simp [ByteArray.size]; omega)]
  simp only [ByteArray.extract_mk, Int.toNat_natCast, List.drop_zero, Nat.sub_zero]

set_option maxRecDepth 100000 in
set_option maxHeartbeats 2000000 in
theorem unsealT (m : List UInt8) (hm : m.length ≤ 116) (w : World) :
    Calls Tryz.prog 125 #[str (sealB m)] w fun e w' => e = .returned (.tuple #[str m, .bool true]) ∧ w.grownBy w' none := by
  obtain ⟨c, w1, hcv, g1, hlt, hc, hsp⟩ := str_bytes m w
  have HS := hide (sealP w.heap.size c m (by omega) w1 hc hlt hsp)
  have htk : ∀ w, (Instr.slice 9 (str (sealB m)) none (some (.int .i64 (m.length : Int))) none).run Tryz.prog w = .ok (str m) w := fun w => by
    have := str_take (sealB m) m.length (by rw [seal_len]; omega) w
    rw [this]
    congr 3
    unfold sealB
    rw [List.take_left]
  have hl := seal_len m
  generalize sealB m = D at htk hl HS ⊢
  have hDl : (D.length : Int) = (m.length : Int) + 4 := by omega
  have hw1 : IntKind.i64.wrap ((m.length : Int) + 4 - 4) = (m.length : Int) := by rw [IntKind.wrap_i64]; omega
  have hd1 : ¬ (120 : Int) < (m.length : Int) + 4 := by omega
  have hd2 : ¬ ((m.length : Int) + 4) < 4 := by omega
  have hDD : (D == D) = true := by simp
  clear hc hsp
  generalize m.length = ml at hl hDl hw1 hd1 hd2 htk hcv HS hm
  go_enter Tryz.func125, Tryz.ntmps125
  go_wp2_with fail
  refine HS.out.mono ?_
  rintro e w2 ⟨rfl, hF2⟩
  go_wp2_with fail
  exact bodyPost_ret (v := .tuple #[str m, .bool true]) (by simp [results, Tryz.results125, go_sem]) rfl ⟨rfl, ((Fr.ofGrown g1 : Fr [] w w1).after hF2 (fun x hx => .inr (by simp at hx; omega))).toGrown⟩

theorem set11_blk {w : World} {B : Nat} {e : TypeId} {a0 a1 a2 a3 a4 a5 a6 a7 a8 a9 a10 v0 v1 v2 v3 v4 v5 v6 v7 v8 v9 v10 : Value} (h : w.heap[B]? = some (.cells #[a0, a1, a2, a3, a4, a5, a6, a7, a8, a9, a10] e)) : (((((((((((w.setCell ⟨B, 0, none⟩ v0).setCell ⟨B, 1, none⟩ v1).setCell ⟨B, 2, none⟩ v2).setCell ⟨B, 3, none⟩ v3).setCell ⟨B, 4, none⟩ v4).setCell ⟨B, 5, none⟩ v5).setCell ⟨B, 6, none⟩ v6).setCell ⟨B, 7, none⟩ v7).setCell ⟨B, 8, none⟩ v8).setCell ⟨B, 9, none⟩ v9).setCell ⟨B, 10, none⟩ v10).heap[B]? = some (.cells #[v0, v1, v2, v3, v4, v5, v6, v7, v8, v9, v10] e) := by
  have h0 := set_blk (i := 0) (v := v0) h
  have h1 := set_blk (i := 1) (v := v1) h0
  have h2 := set_blk (i := 2) (v := v2) h1
  have h3 := set_blk (i := 3) (v := v3) h2
  have h4 := set_blk (i := 4) (v := v4) h3
  have h5 := set_blk (i := 5) (v := v5) h4
  have h6 := set_blk (i := 6) (v := v6) h5
  have h7 := set_blk (i := 7) (v := v7) h6
  have h8 := set_blk (i := 8) (v := v8) h7
  have h9 := set_blk (i := 9) (v := v9) h8
  have h10 := set_blk (i := 10) (v := v10) h9
  refine h10.trans ?_
  simp

/-- A frame's cells. -/
def frArr (k s : Int) (q : Nat → Int) (v : Value) : Array Value := #[.int .i64 k, .int .i64 s, .int .i64 (q 0), .int .i64 (q 1), .int .i64 (q 2), .int .i64 (q 3), .int .i64 (q 4), .int .i64 (q 5), .int .i64 (q 6), .int .i64 (q 7), v]

set_option maxRecDepth 100000 in
set_option maxHeartbeats 2000000 in
theorem digestT (rb n : Nat) (h8 : n ≤ 8) (s : Int) (hs1 : 1 ≤ s) (hsn : s ≤ n) (q : Nat → Int) (hq : ∀ i, i < n → 0 ≤ q i ∧ q i ≤ 100) (w : World) (h : RdAt rb n (vbs (s :: clk n q)) false w) :
    Calls Tryz.prog 126 #[.pointer (some ⟨rb, 0, none⟩)] w fun e w' => e = .returned (.agg (frArr 0 s (partCk q n) (.slice none 0 0))) ∧ RdAt rb n [] false w' ∧ Fr [rb] w w' := by
  have hrlt : rb < w.heap.size := lt_of_heap h
  have hvb : vbs (s :: clk n q) = UInt8.ofNat s.toNat :: smalls n q := by
    rw [show vbs (s :: clk n q) = vb s.toNat ++ vbs (clk n q) from rfl, smalls_vbs n q hq, vb_small (by omega)]; rfl
  rw [hvb] at h
  have hnn := small_nat (x := s) (by omega) (by omega)
  have hsl := smalls_len n q
  have hSm := fun (w1 : World) (h1 : RdAt rb n (UInt8.ofNat s.toNat :: smalls n q) false w1) => smallT rb n 1 n (UInt8.ofNat s.toNat) (by omega) (by omega) (by omega) (UInt8.ofNat s.toNat :: smalls n q) rfl (by simp; omega) w1 h1
  rw [hnn] at hSm
  simp only [List.drop_succ_cons, List.drop_zero] at hSm
  have hCk := fun (w1 : World) (h1 : RdAt rb n (smalls n q) false w1) => clockT rb n h8 q hq w1 h1
  generalize UInt8.ofNat s.toNat :: smalls n q = L0 at hSm h
  generalize smalls n q = L1 at hSm hCk hsl
  unfold ckArr at hCk
  have HSm := hide hSm
  have HCk := hide hCk
  clear hSm hCk hvb hnn hq hsl
  go_enter Tryz.func126, Tryz.ntmps126
  go_upto_region 1 with fail
  have g1 : w.grownBy (w.alloc (.cells #[.int .i64 0, .int .i64 0, .int .i64 0, .int .i64 0, .int .i64 0, .int .i64 0, .int .i64 0, .int .i64 0, .int .i64 0, .int .i64 0, .slice none 0 0] 143)) none := grown_alloc (grown_refl _) _
  have k1 : (w.alloc (.cells #[.int .i64 0, .int .i64 0, .int .i64 0, .int .i64 0, .int .i64 0, .int .i64 0, .int .i64 0, .int .i64 0, .int .i64 0, .int .i64 0, .slice none 0 0] 143)).heap[w.heap.size]? = some (.cells #[.int .i64 0, .int .i64 0, .int .i64 0, .int .i64 0, .int .i64 0, .int .i64 0, .int .i64 0, .int .i64 0, .int .i64 0, .int .i64 0, .slice none 0 0] 143) := by rw [heap_alloc_at]; simp
  generalize (w.alloc (.cells #[.int .i64 0, .int .i64 0, .int .i64 0, .int .i64 0, .int .i64 0, .int .i64 0, .int .i64 0, .int .i64 0, .int .i64 0, .int .i64 0, .slice none 0 0] 143)) = w1 at g1 k1 ⊢
  have hR1 : RdAt rb n L0 false w1 := (g1.block _ hrlt (by simp)).trans h
  have hF1 : Fr [rb] w w1 := Fr.ofGrown g1
  obtain ⟨b2, hb2⟩ : ∃ b, w.heap.size = b := ⟨_, rfl⟩
  rw [hb2] at k1 ⊢
  have n1 : rb ≠ b2 := by omega
  have c0 : w1.cell? ⟨rb, 0, none⟩ = some (.int .i64 n) := cell_blk hR1 0
  clear h g1
  go_wp2_with fail
  refine (HSm.out w1 hR1).mono ?_
  rintro e w2 ⟨rfl, hR2, hF2⟩
  go_wp2_with fail
  refine (HCk.out w2 hR2).mono ?_
  rintro e w3 ⟨rfl, hR3, hF3⟩
  have k3 := hF3.blk (hF2.blk k1 (by simpa using Ne.symm n1)) (by simpa using Ne.symm n1)
  have hF := (hF1.trans hF2).trans hF3
  clear c0 k1 hF1 hF2 hF3 hR1 hR2
  have d0 : w3.cell? ⟨b2, 0, none⟩ = some (.int .i64 0) := cell_blk k3 0
  have f0 : w3.frozen? ⟨b2, 0, none⟩ = false := frozen_blk k3 0
  have d1 : w3.cell? ⟨b2, 1, none⟩ = some (.int .i64 0) := cell_blk k3 1
  have f1 : w3.frozen? ⟨b2, 1, none⟩ = false := frozen_blk k3 1
  have d2 : w3.cell? ⟨b2, 2, none⟩ = some (.int .i64 0) := cell_blk k3 2
  have f2 : w3.frozen? ⟨b2, 2, none⟩ = false := frozen_blk k3 2
  have d3 : w3.cell? ⟨b2, 3, none⟩ = some (.int .i64 0) := cell_blk k3 3
  have f3 : w3.frozen? ⟨b2, 3, none⟩ = false := frozen_blk k3 3
  have d4 : w3.cell? ⟨b2, 4, none⟩ = some (.int .i64 0) := cell_blk k3 4
  have f4 : w3.frozen? ⟨b2, 4, none⟩ = false := frozen_blk k3 4
  have d5 : w3.cell? ⟨b2, 5, none⟩ = some (.int .i64 0) := cell_blk k3 5
  have f5 : w3.frozen? ⟨b2, 5, none⟩ = false := frozen_blk k3 5
  have d6 : w3.cell? ⟨b2, 6, none⟩ = some (.int .i64 0) := cell_blk k3 6
  have f6 : w3.frozen? ⟨b2, 6, none⟩ = false := frozen_blk k3 6
  have d7 : w3.cell? ⟨b2, 7, none⟩ = some (.int .i64 0) := cell_blk k3 7
  have f7 : w3.frozen? ⟨b2, 7, none⟩ = false := frozen_blk k3 7
  have d8 : w3.cell? ⟨b2, 8, none⟩ = some (.int .i64 0) := cell_blk k3 8
  have f8 : w3.frozen? ⟨b2, 8, none⟩ = false := frozen_blk k3 8
  have d9 : w3.cell? ⟨b2, 9, none⟩ = some (.int .i64 0) := cell_blk k3 9
  have f9 : w3.frozen? ⟨b2, 9, none⟩ = false := frozen_blk k3 9
  have d10 : w3.cell? ⟨b2, 10, none⟩ = some (.slice none 0 0) := cell_blk k3 10
  have f10 : w3.frozen? ⟨b2, 10, none⟩ = false := frozen_blk k3 10
  generalize hqq : partCk q n = qq
  have HQ := hide hqq
  clear hqq
  go_wp2_with fail
  have hF8 : Fr [rb] w (((((((((((w3.setCell ⟨b2, 0, none⟩ (.int .i64 0)).setCell ⟨b2, 1, none⟩ (.int .i64 s)).setCell ⟨b2, 2, none⟩ (.int .i64 (qq 0))).setCell ⟨b2, 3, none⟩ (.int .i64 (qq 1))).setCell ⟨b2, 4, none⟩ (.int .i64 (qq 2))).setCell ⟨b2, 5, none⟩ (.int .i64 (qq 3))).setCell ⟨b2, 6, none⟩ (.int .i64 (qq 4))).setCell ⟨b2, 7, none⟩ (.int .i64 (qq 5))).setCell ⟨b2, 8, none⟩ (.int .i64 (qq 6))).setCell ⟨b2, 9, none⟩ (.int .i64 (qq 7))).setCell ⟨b2, 10, none⟩ (.slice none 0 0)) := by
    iterate 11 refine Fr.setCell ?_ (.inr (by simp; omega)) _
    exact hF
  have hR8 : RdAt rb n [] false (((((((((((w3.setCell ⟨b2, 0, none⟩ (.int .i64 0)).setCell ⟨b2, 1, none⟩ (.int .i64 s)).setCell ⟨b2, 2, none⟩ (.int .i64 (qq 0))).setCell ⟨b2, 3, none⟩ (.int .i64 (qq 1))).setCell ⟨b2, 4, none⟩ (.int .i64 (qq 2))).setCell ⟨b2, 5, none⟩ (.int .i64 (qq 3))).setCell ⟨b2, 6, none⟩ (.int .i64 (qq 4))).setCell ⟨b2, 7, none⟩ (.int .i64 (qq 5))).setCell ⟨b2, 8, none⟩ (.int .i64 (qq 6))).setCell ⟨b2, 9, none⟩ (.int .i64 (qq 7))).setCell ⟨b2, 10, none⟩ (.slice none 0 0)) := by
    unfold RdAt at hR3 ⊢
    iterate 11 rw [Below.heap_setCell _ _ _ _ n1]
    exact hR3
  have hk8 : (((((((((((w3.setCell ⟨b2, 0, none⟩ (.int .i64 0)).setCell ⟨b2, 1, none⟩ (.int .i64 s)).setCell ⟨b2, 2, none⟩ (.int .i64 (qq 0))).setCell ⟨b2, 3, none⟩ (.int .i64 (qq 1))).setCell ⟨b2, 4, none⟩ (.int .i64 (qq 2))).setCell ⟨b2, 5, none⟩ (.int .i64 (qq 3))).setCell ⟨b2, 6, none⟩ (.int .i64 (qq 4))).setCell ⟨b2, 7, none⟩ (.int .i64 (qq 5))).setCell ⟨b2, 8, none⟩ (.int .i64 (qq 6))).setCell ⟨b2, 9, none⟩ (.int .i64 (qq 7))).setCell ⟨b2, 10, none⟩ (.slice none 0 0)).heap[b2]? = some (.cells (frArr 0 s qq (.slice none 0 0)) 143) := set11_blk k3
  generalize (((((((((((w3.setCell ⟨b2, 0, none⟩ (.int .i64 0)).setCell ⟨b2, 1, none⟩ (.int .i64 s)).setCell ⟨b2, 2, none⟩ (.int .i64 (qq 0))).setCell ⟨b2, 3, none⟩ (.int .i64 (qq 1))).setCell ⟨b2, 4, none⟩ (.int .i64 (qq 2))).setCell ⟨b2, 5, none⟩ (.int .i64 (qq 3))).setCell ⟨b2, 6, none⟩ (.int .i64 (qq 4))).setCell ⟨b2, 7, none⟩ (.int .i64 (qq 5))).setCell ⟨b2, 8, none⟩ (.int .i64 (qq 6))).setCell ⟨b2, 9, none⟩ (.int .i64 (qq 7))).setCell ⟨b2, 10, none⟩ (.slice none 0 0)) = w8 at hF8 hR8 hk8 ⊢
  clear d0 d1 d2 d3 d4 d5 d6 d7 d8 d9 d10 f0 f1 f2 f3 f4 f5 f6 f7 f8 f9 f10
  unfold frArr at hk8
  have d0 : w8.cell? ⟨b2, 0, none⟩ = some (.int .i64 0) := cell_blk hk8 0
  have d1 : w8.cell? ⟨b2, 1, none⟩ = some (.int .i64 s) := cell_blk hk8 1
  have d2 : w8.cell? ⟨b2, 2, none⟩ = some (.int .i64 (qq 0)) := cell_blk hk8 2
  have d3 : w8.cell? ⟨b2, 3, none⟩ = some (.int .i64 (qq 1)) := cell_blk hk8 3
  have d4 : w8.cell? ⟨b2, 4, none⟩ = some (.int .i64 (qq 2)) := cell_blk hk8 4
  have d5 : w8.cell? ⟨b2, 5, none⟩ = some (.int .i64 (qq 3)) := cell_blk hk8 5
  have d6 : w8.cell? ⟨b2, 6, none⟩ = some (.int .i64 (qq 4)) := cell_blk hk8 6
  have d7 : w8.cell? ⟨b2, 7, none⟩ = some (.int .i64 (qq 5)) := cell_blk hk8 7
  have d8 : w8.cell? ⟨b2, 8, none⟩ = some (.int .i64 (qq 6)) := cell_blk hk8 8
  have d9 : w8.cell? ⟨b2, 9, none⟩ = some (.int .i64 (qq 7)) := cell_blk hk8 9
  have d10 : w8.cell? ⟨b2, 10, none⟩ = some (.slice none 0 0) := cell_blk hk8 10
  exact bodyPost_ret (v := .agg (frArr 0 s qq (.slice none 0 0))) (by simp [results, Tryz.results126, go_sem, frArr, d0, d1, d2, d3, d4, d5, d6, d7, d8, d9, d10]) rfl ⟨by rw [HQ.out], hR8, hF8⟩

set_option maxRecDepth 100000 in
set_option maxHeartbeats 4000000 in
/-- A digest is read. -/
theorem readT (n : Nat) (h8 : n ≤ 8) (s : Int) (hs1 : 1 ≤ s) (hsn : s ≤ n) (q : Nat → Int) (hq : ∀ i, i < n → 0 ≤ q i ∧ q i ≤ 100) (w : World) :
    Calls Tryz.prog 87 #[.int .i64 n, str (digest n s q)] w fun e w' => e = .returned (.tuple #[.agg (frArr 0 s (partCk q n) (.slice none 0 0)), .bool true]) ∧ w.grownBy w' none := by
  have hml : (68 :: vbs (s :: clk n q)).length ≤ 116 := by
    have hsl := smalls_len n q
    rw [show vbs (s :: clk n q) = vb s.toNat ++ vbs (clk n q) from rfl, smalls_vbs n q hq, vb_small (by omega)]
    simp; omega
  have hU := fun w => unsealT (68 :: vbs (s :: clk n q)) hml w
  have hD := fun (rb : Nat) (w : World) (h : RdAt rb n (vbs (s :: clk n q)) false w) => digestT rb n h8 s hs1 hsn q hq w h
  unfold digest
  have hdr : ∀ w, (Instr.slice 9 (str (68 :: vbs (s :: clk n q))) (some (.int .i64 1)) none none).run Tryz.prog w = .ok (str (vbs (s :: clk n q))) w := fun w => str_drop (68 :: vbs (s :: clk n q)) 1 (by simp) w
  have hix : ∀ w, (Instr.index 9 (str (68 :: vbs (s :: clk n q))) (.int .i64 0)).run Tryz.prog w = .ok (.int .u8 68) w := fun w => sindex (68 :: vbs (s :: clk n q)) 0 68 rfl w
  have hne : ((68 :: vbs (s :: clk n q)) == ([] : List UInt8)) = false := rfl
  generalize vbs (s :: clk n q) = L at hU hD hdr hix hne ⊢
  generalize 68 :: L = M at hU hdr hix hne ⊢
  generalize sealB M = D at hU ⊢
  generalize partCk q n = qq at hD ⊢
  unfold frArr at hD
  have HU := hide hU
  have HD := hide hD
  clear hU hD hml hq
  go_enter Tryz.func87, Tryz.ntmps87
  go_upto_region 1 with fail
  have g1 : w.grownBy (w.alloc (.cells #[.int .i64 0, .int .i64 0, .int .i64 0, .int .i64 0, .int .i64 0, .int .i64 0, .int .i64 0, .int .i64 0, .int .i64 0, .int .i64 0, .slice none 0 0] 143)) none := grown_alloc (grown_refl _) _
  have k1 : (w.alloc (.cells #[.int .i64 0, .int .i64 0, .int .i64 0, .int .i64 0, .int .i64 0, .int .i64 0, .int .i64 0, .int .i64 0, .int .i64 0, .int .i64 0, .slice none 0 0] 143)).heap[w.heap.size]? = some (.cells #[.int .i64 0, .int .i64 0, .int .i64 0, .int .i64 0, .int .i64 0, .int .i64 0, .int .i64 0, .int .i64 0, .int .i64 0, .int .i64 0, .slice none 0 0] 143) := by rw [heap_alloc_at]; simp
  generalize (w.alloc (.cells #[.int .i64 0, .int .i64 0, .int .i64 0, .int .i64 0, .int .i64 0, .int .i64 0, .int .i64 0, .int .i64 0, .int .i64 0, .int .i64 0, .slice none 0 0] 143)) = w1 at g1 k1 ⊢
  obtain ⟨b4, hb4⟩ : ∃ b, w.heap.size = b := ⟨_, rfl⟩
  rw [hb4] at k1 ⊢
  go_wp2_with fail
  refine (HU.out w1).mono ?_
  rintro e w2 ⟨rfl, g2⟩
  have k2 := (g2.block _ (lt_of_heap k1) (by simp)).trans k1
  have hlt2 := lt_of_heap k2
  go_upto_region 6 with fail
  have g3 : w2.grownBy ((w2.alloc (.cells #[.int .i64 n, str L, .bool false] 193)).alloc (.cells #[.int .i64 0, .int .i64 0, .int .i64 0, .int .i64 0, .int .i64 0, .int .i64 0, .int .i64 0, .int .i64 0, .int .i64 0, .int .i64 0, .slice none 0 0] 143)) none := grown_alloc (grown_alloc (grown_refl _) _) _
  have k8 : ((w2.alloc (.cells #[.int .i64 n, str L, .bool false] 193)).alloc (.cells #[.int .i64 0, .int .i64 0, .int .i64 0, .int .i64 0, .int .i64 0, .int .i64 0, .int .i64 0, .int .i64 0, .int .i64 0, .int .i64 0, .slice none 0 0] 143)).heap[w2.heap.size]? = some (.cells #[.int .i64 n, str L, .bool false] 193) := by simp only [heap_alloc_at, World.size_alloc]; simp
  have k9 : ((w2.alloc (.cells #[.int .i64 n, str L, .bool false] 193)).alloc (.cells #[.int .i64 0, .int .i64 0, .int .i64 0, .int .i64 0, .int .i64 0, .int .i64 0, .int .i64 0, .int .i64 0, .int .i64 0, .int .i64 0, .slice none 0 0] 143)).heap[w2.heap.size + 1]? = some (.cells #[.int .i64 0, .int .i64 0, .int .i64 0, .int .i64 0, .int .i64 0, .int .i64 0, .int .i64 0, .int .i64 0, .int .i64 0, .int .i64 0, .slice none 0 0] 143) := by simp only [heap_alloc_at, World.size_alloc]; simp
  generalize ((w2.alloc (.cells #[.int .i64 n, str L, .bool false] 193)).alloc (.cells #[.int .i64 0, .int .i64 0, .int .i64 0, .int .i64 0, .int .i64 0, .int .i64 0, .int .i64 0, .int .i64 0, .int .i64 0, .int .i64 0, .slice none 0 0] 143)) = w3 at g3 k8 k9 ⊢
  have k43 := (g3.block _ hlt2 (by simp)).trans k2
  have gA := grown_trans g1 (grown_trans g2 g3)
  have hb8 : b4 < w2.heap.size := hlt2
  generalize w2.heap.size = rb at k8 k9 hb8 ⊢
  have HD2 := hide (HD.out rb w3 k8)
  clear k1 k2 g1 g2 g3 HU HD hlt2
  go_wp2_with fail
  refine HD2.out.mono ?_
  rintro e w5 ⟨rfl, hR5, hF5⟩
  have k95 := hF5.blk k9 (by simp)
  have k45 := hF5.blk k43 (by simp; omega)
  have hFA : Fr [] w w5 := (Fr.ofGrown gA).after hF5 (fun x hx => .inr (by simp at hx; omega))
  have r1 : w5.cell? ⟨rb, 1, none⟩ = some (str []) := cell_blk hR5 1
  have r2 : w5.cell? ⟨rb, 2, none⟩ = some (.bool false) := cell_blk hR5 2
  have d0 : w5.cell? ⟨rb + 1, 0, none⟩ = some (.int .i64 0) := cell_blk k95 0
  have f0 : w5.frozen? ⟨rb + 1, 0, none⟩ = false := frozen_blk k95 0
  have d1 : w5.cell? ⟨rb + 1, 1, none⟩ = some (.int .i64 0) := cell_blk k95 1
  have f1 : w5.frozen? ⟨rb + 1, 1, none⟩ = false := frozen_blk k95 1
  have d2 : w5.cell? ⟨rb + 1, 2, none⟩ = some (.int .i64 0) := cell_blk k95 2
  have f2 : w5.frozen? ⟨rb + 1, 2, none⟩ = false := frozen_blk k95 2
  have d3 : w5.cell? ⟨rb + 1, 3, none⟩ = some (.int .i64 0) := cell_blk k95 3
  have f3 : w5.frozen? ⟨rb + 1, 3, none⟩ = false := frozen_blk k95 3
  have d4 : w5.cell? ⟨rb + 1, 4, none⟩ = some (.int .i64 0) := cell_blk k95 4
  have f4 : w5.frozen? ⟨rb + 1, 4, none⟩ = false := frozen_blk k95 4
  have d5 : w5.cell? ⟨rb + 1, 5, none⟩ = some (.int .i64 0) := cell_blk k95 5
  have f5 : w5.frozen? ⟨rb + 1, 5, none⟩ = false := frozen_blk k95 5
  have d6 : w5.cell? ⟨rb + 1, 6, none⟩ = some (.int .i64 0) := cell_blk k95 6
  have f6 : w5.frozen? ⟨rb + 1, 6, none⟩ = false := frozen_blk k95 6
  have d7 : w5.cell? ⟨rb + 1, 7, none⟩ = some (.int .i64 0) := cell_blk k95 7
  have f7 : w5.frozen? ⟨rb + 1, 7, none⟩ = false := frozen_blk k95 7
  have d8 : w5.cell? ⟨rb + 1, 8, none⟩ = some (.int .i64 0) := cell_blk k95 8
  have f8 : w5.frozen? ⟨rb + 1, 8, none⟩ = false := frozen_blk k95 8
  have d9 : w5.cell? ⟨rb + 1, 9, none⟩ = some (.int .i64 0) := cell_blk k95 9
  have f9 : w5.frozen? ⟨rb + 1, 9, none⟩ = false := frozen_blk k95 9
  have d10 : w5.cell? ⟨rb + 1, 10, none⟩ = some (.slice none 0 0) := cell_blk k95 10
  have f10 : w5.frozen? ⟨rb + 1, 10, none⟩ = false := frozen_blk k95 10
  go_upto_region 12 with fail
  have hF6 : Fr [] w (((((((((((w5.setCell ⟨rb + 1, 0, none⟩ (.int .i64 0)).setCell ⟨rb + 1, 1, none⟩ (.int .i64 s)).setCell ⟨rb + 1, 2, none⟩ (.int .i64 (qq 0))).setCell ⟨rb + 1, 3, none⟩ (.int .i64 (qq 1))).setCell ⟨rb + 1, 4, none⟩ (.int .i64 (qq 2))).setCell ⟨rb + 1, 5, none⟩ (.int .i64 (qq 3))).setCell ⟨rb + 1, 6, none⟩ (.int .i64 (qq 4))).setCell ⟨rb + 1, 7, none⟩ (.int .i64 (qq 5))).setCell ⟨rb + 1, 8, none⟩ (.int .i64 (qq 6))).setCell ⟨rb + 1, 9, none⟩ (.int .i64 (qq 7))).setCell ⟨rb + 1, 10, none⟩ (.slice none 0 0)) := by
    iterate 11 refine Fr.setCell ?_ (.inr (by simp; omega)) _
    exact hFA
  have q1 : (((((((((((w5.setCell ⟨rb + 1, 0, none⟩ (.int .i64 0)).setCell ⟨rb + 1, 1, none⟩ (.int .i64 s)).setCell ⟨rb + 1, 2, none⟩ (.int .i64 (qq 0))).setCell ⟨rb + 1, 3, none⟩ (.int .i64 (qq 1))).setCell ⟨rb + 1, 4, none⟩ (.int .i64 (qq 2))).setCell ⟨rb + 1, 5, none⟩ (.int .i64 (qq 3))).setCell ⟨rb + 1, 6, none⟩ (.int .i64 (qq 4))).setCell ⟨rb + 1, 7, none⟩ (.int .i64 (qq 5))).setCell ⟨rb + 1, 8, none⟩ (.int .i64 (qq 6))).setCell ⟨rb + 1, 9, none⟩ (.int .i64 (qq 7))).setCell ⟨rb + 1, 10, none⟩ (.slice none 0 0)).heap[rb]? = some (.cells #[.int .i64 n, str [], .bool false] 193) := by
    iterate 11 rw [Below.heap_setCell _ _ _ _ (by simp)]
    exact hR5
  have q4 : (((((((((((w5.setCell ⟨rb + 1, 0, none⟩ (.int .i64 0)).setCell ⟨rb + 1, 1, none⟩ (.int .i64 s)).setCell ⟨rb + 1, 2, none⟩ (.int .i64 (qq 0))).setCell ⟨rb + 1, 3, none⟩ (.int .i64 (qq 1))).setCell ⟨rb + 1, 4, none⟩ (.int .i64 (qq 2))).setCell ⟨rb + 1, 5, none⟩ (.int .i64 (qq 3))).setCell ⟨rb + 1, 6, none⟩ (.int .i64 (qq 4))).setCell ⟨rb + 1, 7, none⟩ (.int .i64 (qq 5))).setCell ⟨rb + 1, 8, none⟩ (.int .i64 (qq 6))).setCell ⟨rb + 1, 9, none⟩ (.int .i64 (qq 7))).setCell ⟨rb + 1, 10, none⟩ (.slice none 0 0)).heap[b4]? = some (.cells #[.int .i64 0, .int .i64 0, .int .i64 0, .int .i64 0, .int .i64 0, .int .i64 0, .int .i64 0, .int .i64 0, .int .i64 0, .int .i64 0, .slice none 0 0] 143) := by
    iterate 11 rw [Below.heap_setCell _ _ _ _ (by simp; omega)]
    exact k45
  have q9 : (((((((((((w5.setCell ⟨rb + 1, 0, none⟩ (.int .i64 0)).setCell ⟨rb + 1, 1, none⟩ (.int .i64 s)).setCell ⟨rb + 1, 2, none⟩ (.int .i64 (qq 0))).setCell ⟨rb + 1, 3, none⟩ (.int .i64 (qq 1))).setCell ⟨rb + 1, 4, none⟩ (.int .i64 (qq 2))).setCell ⟨rb + 1, 5, none⟩ (.int .i64 (qq 3))).setCell ⟨rb + 1, 6, none⟩ (.int .i64 (qq 4))).setCell ⟨rb + 1, 7, none⟩ (.int .i64 (qq 5))).setCell ⟨rb + 1, 8, none⟩ (.int .i64 (qq 6))).setCell ⟨rb + 1, 9, none⟩ (.int .i64 (qq 7))).setCell ⟨rb + 1, 10, none⟩ (.slice none 0 0)).heap[rb + 1]? = some (.cells (frArr 0 s qq (.slice none 0 0)) 143) := set11_blk k95
  generalize (((((((((((w5.setCell ⟨rb + 1, 0, none⟩ (.int .i64 0)).setCell ⟨rb + 1, 1, none⟩ (.int .i64 s)).setCell ⟨rb + 1, 2, none⟩ (.int .i64 (qq 0))).setCell ⟨rb + 1, 3, none⟩ (.int .i64 (qq 1))).setCell ⟨rb + 1, 4, none⟩ (.int .i64 (qq 2))).setCell ⟨rb + 1, 5, none⟩ (.int .i64 (qq 3))).setCell ⟨rb + 1, 6, none⟩ (.int .i64 (qq 4))).setCell ⟨rb + 1, 7, none⟩ (.int .i64 (qq 5))).setCell ⟨rb + 1, 8, none⟩ (.int .i64 (qq 6))).setCell ⟨rb + 1, 9, none⟩ (.int .i64 (qq 7))).setCell ⟨rb + 1, 10, none⟩ (.slice none 0 0)) = w6 at hF6 q1 q4 q9 ⊢
  clear d0 f0 d1 f1 d2 f2 d3 f3 d4 f4 d5 f5 d6 f6 d7 f7 d8 f8 d9 f9 d10 f10 r1 r2
  unfold frArr at q9
  have r1 : w6.cell? ⟨rb, 1, none⟩ = some (str []) := cell_blk q1 1
  have r2 : w6.cell? ⟨rb, 2, none⟩ = some (.bool false) := cell_blk q1 2
  have c0 : w6.cell? ⟨rb + 1, 0, none⟩ = some (.int .i64 0) := cell_blk q9 0
  have c1 : w6.cell? ⟨rb + 1, 1, none⟩ = some (.int .i64 s) := cell_blk q9 1
  have c2 : w6.cell? ⟨rb + 1, 2, none⟩ = some (.int .i64 (qq 0)) := cell_blk q9 2
  have c3 : w6.cell? ⟨rb + 1, 3, none⟩ = some (.int .i64 (qq 1)) := cell_blk q9 3
  have c4 : w6.cell? ⟨rb + 1, 4, none⟩ = some (.int .i64 (qq 2)) := cell_blk q9 4
  have c5 : w6.cell? ⟨rb + 1, 5, none⟩ = some (.int .i64 (qq 3)) := cell_blk q9 5
  have c6 : w6.cell? ⟨rb + 1, 6, none⟩ = some (.int .i64 (qq 4)) := cell_blk q9 6
  have c7 : w6.cell? ⟨rb + 1, 7, none⟩ = some (.int .i64 (qq 5)) := cell_blk q9 7
  have c8 : w6.cell? ⟨rb + 1, 8, none⟩ = some (.int .i64 (qq 6)) := cell_blk q9 8
  have c9 : w6.cell? ⟨rb + 1, 9, none⟩ = some (.int .i64 (qq 7)) := cell_blk q9 9
  have c10 : w6.cell? ⟨rb + 1, 10, none⟩ = some (.slice none 0 0) := cell_blk q9 10
  have d0 : w6.cell? ⟨b4, 0, none⟩ = some (.int .i64 0) := cell_blk q4 0
  have f0 : w6.frozen? ⟨b4, 0, none⟩ = false := frozen_blk q4 0
  have d1 : w6.cell? ⟨b4, 1, none⟩ = some (.int .i64 0) := cell_blk q4 1
  have f1 : w6.frozen? ⟨b4, 1, none⟩ = false := frozen_blk q4 1
  have d2 : w6.cell? ⟨b4, 2, none⟩ = some (.int .i64 0) := cell_blk q4 2
  have f2 : w6.frozen? ⟨b4, 2, none⟩ = false := frozen_blk q4 2
  have d3 : w6.cell? ⟨b4, 3, none⟩ = some (.int .i64 0) := cell_blk q4 3
  have f3 : w6.frozen? ⟨b4, 3, none⟩ = false := frozen_blk q4 3
  have d4 : w6.cell? ⟨b4, 4, none⟩ = some (.int .i64 0) := cell_blk q4 4
  have f4 : w6.frozen? ⟨b4, 4, none⟩ = false := frozen_blk q4 4
  have d5 : w6.cell? ⟨b4, 5, none⟩ = some (.int .i64 0) := cell_blk q4 5
  have f5 : w6.frozen? ⟨b4, 5, none⟩ = false := frozen_blk q4 5
  have d6 : w6.cell? ⟨b4, 6, none⟩ = some (.int .i64 0) := cell_blk q4 6
  have f6 : w6.frozen? ⟨b4, 6, none⟩ = false := frozen_blk q4 6
  have d7 : w6.cell? ⟨b4, 7, none⟩ = some (.int .i64 0) := cell_blk q4 7
  have f7 : w6.frozen? ⟨b4, 7, none⟩ = false := frozen_blk q4 7
  have d8 : w6.cell? ⟨b4, 8, none⟩ = some (.int .i64 0) := cell_blk q4 8
  have f8 : w6.frozen? ⟨b4, 8, none⟩ = false := frozen_blk q4 8
  have d9 : w6.cell? ⟨b4, 9, none⟩ = some (.int .i64 0) := cell_blk q4 9
  have f9 : w6.frozen? ⟨b4, 9, none⟩ = false := frozen_blk q4 9
  have d10 : w6.cell? ⟨b4, 10, none⟩ = some (.slice none 0 0) := cell_blk q4 10
  have f10 : w6.frozen? ⟨b4, 10, none⟩ = false := frozen_blk q4 10
  go_wp2_with fail
  have hF7 : Fr [] w (((((((((((w6.setCell ⟨b4, 0, none⟩ (.int .i64 0)).setCell ⟨b4, 1, none⟩ (.int .i64 s)).setCell ⟨b4, 2, none⟩ (.int .i64 (qq 0))).setCell ⟨b4, 3, none⟩ (.int .i64 (qq 1))).setCell ⟨b4, 4, none⟩ (.int .i64 (qq 2))).setCell ⟨b4, 5, none⟩ (.int .i64 (qq 3))).setCell ⟨b4, 6, none⟩ (.int .i64 (qq 4))).setCell ⟨b4, 7, none⟩ (.int .i64 (qq 5))).setCell ⟨b4, 8, none⟩ (.int .i64 (qq 6))).setCell ⟨b4, 9, none⟩ (.int .i64 (qq 7))).setCell ⟨b4, 10, none⟩ (.slice none 0 0)) := by
    iterate 11 refine Fr.setCell ?_ (.inr (by simp; omega)) _
    exact hF6
  have z4 : (((((((((((w6.setCell ⟨b4, 0, none⟩ (.int .i64 0)).setCell ⟨b4, 1, none⟩ (.int .i64 s)).setCell ⟨b4, 2, none⟩ (.int .i64 (qq 0))).setCell ⟨b4, 3, none⟩ (.int .i64 (qq 1))).setCell ⟨b4, 4, none⟩ (.int .i64 (qq 2))).setCell ⟨b4, 5, none⟩ (.int .i64 (qq 3))).setCell ⟨b4, 6, none⟩ (.int .i64 (qq 4))).setCell ⟨b4, 7, none⟩ (.int .i64 (qq 5))).setCell ⟨b4, 8, none⟩ (.int .i64 (qq 6))).setCell ⟨b4, 9, none⟩ (.int .i64 (qq 7))).setCell ⟨b4, 10, none⟩ (.slice none 0 0)).heap[b4]? = some (.cells (frArr 0 s qq (.slice none 0 0)) 143) := set11_blk q4
  generalize (((((((((((w6.setCell ⟨b4, 0, none⟩ (.int .i64 0)).setCell ⟨b4, 1, none⟩ (.int .i64 s)).setCell ⟨b4, 2, none⟩ (.int .i64 (qq 0))).setCell ⟨b4, 3, none⟩ (.int .i64 (qq 1))).setCell ⟨b4, 4, none⟩ (.int .i64 (qq 2))).setCell ⟨b4, 5, none⟩ (.int .i64 (qq 3))).setCell ⟨b4, 6, none⟩ (.int .i64 (qq 4))).setCell ⟨b4, 7, none⟩ (.int .i64 (qq 5))).setCell ⟨b4, 8, none⟩ (.int .i64 (qq 6))).setCell ⟨b4, 9, none⟩ (.int .i64 (qq 7))).setCell ⟨b4, 10, none⟩ (.slice none 0 0)) = w7 at hF7 z4 ⊢
  clear c0 d0 f0 c1 d1 f1 c2 d2 f2 c3 d3 f3 c4 d4 f4 c5 d5 f5 c6 d6 f6 c7 d7 f7 c8 d8 f8 c9 d9 f9 c10 d10 f10
  unfold frArr at z4
  have d0 : w7.cell? ⟨b4, 0, none⟩ = some (.int .i64 0) := cell_blk z4 0
  have d1 : w7.cell? ⟨b4, 1, none⟩ = some (.int .i64 s) := cell_blk z4 1
  have d2 : w7.cell? ⟨b4, 2, none⟩ = some (.int .i64 (qq 0)) := cell_blk z4 2
  have d3 : w7.cell? ⟨b4, 3, none⟩ = some (.int .i64 (qq 1)) := cell_blk z4 3
  have d4 : w7.cell? ⟨b4, 4, none⟩ = some (.int .i64 (qq 2)) := cell_blk z4 4
  have d5 : w7.cell? ⟨b4, 5, none⟩ = some (.int .i64 (qq 3)) := cell_blk z4 5
  have d6 : w7.cell? ⟨b4, 6, none⟩ = some (.int .i64 (qq 4)) := cell_blk z4 6
  have d7 : w7.cell? ⟨b4, 7, none⟩ = some (.int .i64 (qq 5)) := cell_blk z4 7
  have d8 : w7.cell? ⟨b4, 8, none⟩ = some (.int .i64 (qq 6)) := cell_blk z4 8
  have d9 : w7.cell? ⟨b4, 9, none⟩ = some (.int .i64 (qq 7)) := cell_blk z4 9
  have d10 : w7.cell? ⟨b4, 10, none⟩ = some (.slice none 0 0) := cell_blk z4 10
  exact bodyPost_ret (v := .tuple #[.agg (frArr 0 s qq (.slice none 0 0)), .bool true]) (by simp [results, Tryz.results87, go_sem, frArr, d0, d1, d2, d3, d4, d5, d6, d7, d8, d9, d10]) rfl ⟨rfl, hF7.toGrown⟩

end Go.Proofs.YtachmkhbbbmioaaGreat

namespace Go.Proofs.YtachmkhbbbmioaaGreat
open Go.RowKit Go.Shelf

/-- A cursor of the document's: what is left, whether something was wrong. -/
def CuAt (cb : Nat) (l : List UInt8) (bad : Bool) (w : World) : Prop := w.heap[cb]? = some (.cells #[str l, .bool bad] 160)

set_option maxRecDepth 100000 in
set_option maxHeartbeats 2000000 in
theorem cuNumR (cb : Nat) (b : UInt8) (hb : b.toNat < 128) (L : List UInt8) (hL0 : L[0]? = some b) (hl : L.length ≤ 1000) (w : World) (h : CuAt cb L false w) :
    Calls Tryz.prog 95 #[.pointer (some ⟨cb, 0, none⟩)] w fun e w' => e = .returned (.int .i64 (b.toNat : Int)) ∧ CuAt cb (L.drop 1) false w' ∧ Fr [cb] w w' := by
  have c0 : w.cell? ⟨cb, 0, none⟩ = some (str L) := cell_blk h 0
  have f0 : w.frozen? ⟨cb, 0, none⟩ = false := frozen_blk h 0
  have hlp : 0 < L.length := (List.getElem?_eq_some_iff.1 hL0).1
  have hlpi : (0 : Int) < (L.length : Int) := by omega
  have hx : ∀ w, (Instr.index 9 (str L) (.int .i64 0)).run Tryz.prog w = .ok (.int .u8 (b.toNat : Int)) w := fun w => sindex L 0 b hL0 w
  have hdr : ∀ w, (Instr.slice 9 (str L) (some (.int .i64 1)) none none).run Tryz.prog w = .ok (str (L.drop 1)) w := fun w => str_drop L 1 (by omega) w
  have hbi : (b.toNat : Int) < 128 := by omega
  have hb0 : (0 : Int) ≤ (b.toNat : Int) := by omega
  have e1 : (b.toNat : Int) % 128 = (b.toNat : Int) := by omega
  have H : Hid (w.heap[cb]? = some (.cells #[str L, .bool false] 160)) := h
  generalize L.drop 1 = D at hdr ⊢
  clear hL0 hb h
  generalize (b.toNat : Int) = x at hx hbi hb0 e1 ⊢
  have hwx : IntKind.i64.wrap x = x := by rw [IntKind.wrap_i64]; omega
  go_enter Tryz.func95, Tryz.ntmps95
  go_wp2_with fail
  go_loopg [3, 4, 5] 1 (fun _ s3 s4 s5 wr => s3 = .int .i64 0 ∧ s4 = .int .i64 1 ∧ s5 = .int .i64 0 ∧ wr = w)
  case atStart => exact ⟨rfl, rfl, rfl, rfl⟩
  case round =>
    obtain ⟨rfl, rfl, rfl, hw⟩ := hrel
    rw [hw]
    clear hw wr
    go_wp2_with fail
    go_ret
    refine ⟨rfl, ?_, (Fr.refl _ w).setCell (.inl (by simp)) _⟩
    unfold CuAt
    rw [set_blk H.out]; rfl

theorem intRow_one (l : List Int) : ∀ y ∈ intRow l, y.length = 1 := by
  intro y hy
  obtain ⟨x, -, rfl⟩ := List.mem_map.1 hy
  rfl
theorem intRow_cell (l : List Int) : ∀ y ∈ intRow l, ∀ c ∈ y, c.oneCell' = true := by
  intro y hy c hc
  obtain ⟨x, -, rfl⟩ := List.mem_map.1 hy
  simp only [List.mem_cons, List.not_mem_nil, or_false] at hc
  rw [hc]; rfl
theorem clk_snoc (i : Nat) (q : Nat → Int) : clk (i + 1) q = clk i q ++ [q i] := by
  unfold clk
  rw [List.range_succ, List.map_append]; rfl

set_option maxRecDepth 100000 in
set_option maxHeartbeats 4000000 in
theorem cuClkR (cb n : Nat) (h8 : n ≤ 8) (q : Nat → Int) (hq : ∀ i, i < n → 0 ≤ q i ∧ q i ≤ 100) (w : World) (h : CuAt cb (smalls n q) false w) :
    Calls Tryz.prog 96 #[.pointer (some ⟨cb, 0, none⟩), .int .i64 n] w fun e w' => ∃ v, e = .returned v ∧ RowAt 3 1 v (intRow (clk n q)) w' ∧ CuAt cb [] false w' ∧ Fr [cb] w w' ∧ (∀ g, v.ownBlock = some g → w.heap.size ≤ g) := by
  have hclt : cb < w.heap.size := lt_of_heap h
  go_enter Tryz.func96, Tryz.ntmps96
  go_wp2_with fail
  go_loopg [5, 6] n (fun gk s5 s6 wr => ∃ (i : Nat), s6 = .int .i64 i ∧ i ≤ n ∧ gk = n - i ∧ CuAt cb ((smalls n q).drop i) false wr ∧ RowAt 3 1 s5 (intRow (clk i q)) wr ∧ Fr [cb] w wr ∧ (∀ g, s5.ownBlock = some g → w.heap.size ≤ g))
  case atStart => exact ⟨0, rfl, by omega, rfl, h, row_nil _ _ _, Fr.refl _ _, by simp [Value.ownBlock]⟩
  case round =>
    clear h
    obtain ⟨i, rfl, hil, hgk, hC, hR, hF, hO⟩ := hrel
    by_cases hlt : i < n
    · have hli : (i : Int) < (n : Int) := by omega
      have hqi := hq i hlt
      have hnn := small_nat hqi.1 hqi.2
      have HS := hide (cuNumR cb (UInt8.ofNat (q i).toNat) (by omega) ((smalls n q).drop i) (by rw [List.getElem?_drop]; exact smalls_at q hlt) (by simp [smalls_len]; omega) wr hC)
      rw [hnn, List.drop_drop] at HS
      have hcb : ∀ g, u5.ownBlock = some g → g ≠ cb := fun g hg => by have := hO g hg; omega
      go_wp2_with fail
      refine HS.out.mono ?_
      rintro e w2 ⟨rfl, hC2, hF2⟩
      have hR2 := hR.kept (w' := w2) (fun g hg => hF2.block g (hR.lt hg) (by simpa using hcb g hg))
      have g3 : w2.grownBy (w2.alloc (.cells #[.int .i64 (q i)] 3)) none := grown_alloc (grown_refl _) _
      have hSr : SrcAt (w2.alloc (.cells #[.int .i64 (q i)] 3)) (.slice (some ⟨w2.heap.size, 0, none⟩) 1 1) (intRow [q i]) := src_new w2 [.int .i64 (q i)] _
      have hR3 := hR2.grown g3
      have hFA := (hF.trans hF2).grown g3 (by simp)
      have lr : (intRow (clk i q)).length = i := by rw [intRow_len, clk_len]
      have l1 : (intRow [q i]).length = 1 := rfl
      go_wp2_with (at_builtin; refine wpList_row Tryz.underlying40 infoInts rfl (by decide) rfl _ _ rfl u5 _ rfl hR3 _ _ rfl hSr (intRow_one _) (intRow_cell _) (by unfold maxLen; omega) (by omega) ?_; intro v5 w5 hR5 hg5 hat)
      go_roundg (n - (i + 1))
      case measure => omega
      case rel =>
        refine ⟨i + 1, by go_num, by omega, rfl, ?_, ?_, hFA.grown hg5 (fun k hk => .inr (hO k hk)), fun g hg => ?_⟩
        · exact (hg5.block cb (by have := g3.size; have := hF2.size; have := hF.size; omega) (fun q => hcb cb q.symm rfl)).trans ((g3.block cb (by have := hF2.size; have := hF.size; omega) (by simp)).trans hC2)
        · rw [clk_snoc]
          have : intRow (clk i q ++ [q i]) = intRow (clk i q) ++ intRow [q i] := by simp [intRow]
          rw [this]; exact hR5
        · rcases hat with hat | hat
          · exact hO g (hat ▸ hg)
          · rw [hat] at hg; cases hg; exact hFA.size
    · obtain rfl : i = n := by omega
      rw [List.drop_of_length_le (by rw [smalls_len]; omega)] at hC
      go_wp2_with fail
      go_ret
      exact ⟨_, rfl, hR, hC, hF, hO⟩

set_option maxRecDepth 100000 in
set_option maxHeartbeats 1000000 in
theorem withinR (xs : List Int) (hxs : ∀ x ∈ xs, x ≤ 100) (hl : xs.length ≤ 1000) (v : Value) (w : World) (hv : RowAt 3 1 v (intRow xs) w) :
    Calls Tryz.prog 97 #[v] w fun e w' => e = .returned (.bool true) ∧ w' = w := by
  obtain ⟨av, cv, rfl, hcv⟩ := hv.value
  rw [intRow_len] at hv hcv ⊢
  go_enter Tryz.func97, Tryz.ntmps97
  go_wp2_with fail
  go_loopg [3] xs.length (fun g s3 wr => ∃ (i : Nat), s3 = .int .i64 i ∧ i ≤ xs.length ∧ g = xs.length - i ∧ wr = w)
  case atStart => exact ⟨0, rfl, by omega, rfl, rfl⟩
  case round =>
    obtain ⟨i, rfl, hil, hgk, hw⟩ := hrel
    rw [hw]
    clear hw wr
    by_cases hlt : i < xs.length
    · have hli : (i : Int) < (xs.length : Int) := by omega
      obtain ⟨x, hx⟩ : ∃ x, xs[i]? = some x := ⟨xs[i], by simp [hlt]⟩
      have hxb := hxs x (List.mem_of_getElem? hx)
      obtain ⟨g1, c1, cur1, hv1, -, hb1, hx1⟩ := hv.cell (i := i) (intRow_at hx)
      rw [intRow_len] at hv1
      cases hv1
      have k1 : w.cell? ⟨g1, i, none⟩ = some (.int .i64 x) := (cell_blk hb1 _).trans (by simpa using hx1 0 _ rfl)
      clear hx1
      have hxn : ¬ (100 : Int) < x := by omega
      go_wp2_with fail
      go_roundg (xs.length - (i + 1))
      case measure => omega
      case rel => exact ⟨i + 1, by go_num, by omega, rfl, rfl⟩
    · go_wp2_with fail
      go_ret
      exact ⟨rfl, rfl⟩

end Go.Proofs.YtachmkhbbbmioaaGreat

namespace Go.Proofs.YtachmkhbbbmioaaGreat
open Go.RowKit Go.Shelf

theorem str_mid (l : List UInt8) (i j : Nat) (hij : i ≤ j) (hj : j ≤ l.length) (w : World) : (Instr.slice 9 (str l) (some (.int .i64 (i : Int))) (some (.int .i64 (j : Int))) none).run Tryz.prog w = .ok (str ((l.drop i).take (j - i))) w := by
  have := run_slice_string w 9 ⟨l.toArray⟩ .i64 .i64 i j Tryz.underlying9 (by omega) (by omega) (by simp [ByteArray.size]; omega)
  rw [this]
  simp only [ByteArray.extract_mk, Int.toNat_natCast]

theorem set3 {w : World} {B b o : Nat} {v0 v1 v2 : Value} (h : b ≠ B) : (((w.setCell ⟨B, 0, none⟩ v0).setCell ⟨B, 1, none⟩ v1).setCell ⟨B, 2, none⟩ v2).cell? ⟨b, o, none⟩ = w.cell? ⟨b, o, none⟩ := by
  rw [cell_set_ne h, cell_set_ne h, cell_set_ne h]

theorem set3_blk {w : World} {B : Nat} {e : TypeId} {a0 a1 a2 v0 v1 v2 : Value} (h : w.heap[B]? = some (.cells #[a0, a1, a2] e)) : (((w.setCell ⟨B, 0, none⟩ v0).setCell ⟨B, 1, none⟩ v1).setCell ⟨B, 2, none⟩ v2).heap[B]? = some (.cells #[v0, v1, v2] e) := by
  have h0 := set_blk h (i := 0) (v := v0)
  have h1 := set_blk h0 (i := 1) (v := v1)
  refine (set_blk h1 (i := 2) (v := v2)).trans ?_
  simp

set_option maxRecDepth 100000 in
set_option maxHeartbeats 4000000 in
/-- A digest is a frame, by the document. -/
theorem readR (n : Nat) (h1 : 1 ≤ n) (h8 : n ≤ 8) (s : Int) (hs1 : 1 ≤ s) (hsn : s ≤ n) (q : Nat → Int) (hq : ∀ i, i < n → 0 ≤ q i ∧ q i ≤ 100) (w : World) :
    Calls Tryz.prog 69 #[str (digest n s q), .int .i64 n] w fun e w' => ∃ v, e = .returned (.tuple #[.agg #[.int .i64 s, v, .slice none 0 0], .bool true]) ∧ RowAt 3 1 v (intRow (clk n q)) w' ∧ w.grownBy w' none := by
  have hvb : vbs (s :: clk n q) = UInt8.ofNat s.toNat :: smalls n q := by
    rw [show vbs (s :: clk n q) = vb s.toNat ++ vbs (clk n q) from rfl, smalls_vbs n q hq, vb_small (by omega)]; rfl
  have hsl := smalls_len n q
  have hdl : (digest n s q).length = n + 6 := by unfold digest; rw [seal_len, hvb]; simp; omega
  have hnn := small_nat (x := s) (by omega) (by omega)
  have hN := fun (cb : Nat) (w : World) (h : CuAt cb (UInt8.ofNat s.toNat :: smalls n q) false w) => cuNumR cb (UInt8.ofNat s.toNat) (by omega) (UInt8.ofNat s.toNat :: smalls n q) rfl (by simp; omega) w h
  rw [hnn] at hN
  simp only [List.drop_succ_cons, List.drop_zero] at hN
  have hC := fun (cb : Nat) (w : World) (h : CuAt cb (smalls n q) false w) => cuClkR cb n h8 q hq w h
  have hWi := fun (v : Value) (w : World) (hv : RowAt 3 1 v (intRow (clk n q)) w) => withinR (clk n q) (fun x hx => by obtain ⟨i, hi, rfl⟩ := clk_mem hx; exact (hq i hi).2) (by rw [clk_len]; omega) v w hv
  have hWr := fun (v vo : Value) (w : World) (hv : RowAt 3 1 v (intRow (clk n q)) w) => writeDigR s (by omega) (by omega) n h8 q hq v vo w hv
  have hcut : ∀ w, (Instr.slice 9 (str (digest n s q)) (some (.int .i64 1)) (some (.int .i64 ((n : Int) + 2))) none).run Tryz.prog w = .ok (str (UInt8.ofNat s.toNat :: smalls n q)) w := fun w => by
    have := str_mid (digest n s q) 1 (n + 2) (by omega) (by omega) w
    have e : ((n + 2 : Nat) : Int) = (n : Int) + 2 := by omega
    rw [e] at this
    rw [show (.int .i64 (1 : Int) : Value) = .int .i64 ((1 : Nat) : Int) from rfl, this]
    congr 3
    unfold digest sealB
    rw [hvb]
    simp only [List.cons_append, List.drop_succ_cons, List.drop_zero]
    have hl2 : n + 2 - 1 = (UInt8.ofNat s.toNat :: smalls n q).length := by rw [List.length_cons, hsl]; omega
    rw [hl2, ← List.cons_append]
    exact List.take_left
  have hix : ∀ w, (Instr.index 9 (str (digest n s q)) (.int .i64 0)).run Tryz.prog w = .ok (.int .u8 68) w := fun w => sindex (digest n s q) 0 68 rfl w
  generalize UInt8.ofNat s.toNat :: smalls n q = L0 at hN hcut
  generalize smalls n q = L1 at hN hC hsl
  generalize hDD : digest n s q = D at hdl hWr hcut hix ⊢
  have hD1 : (D.length : Int) = (n : Int) + 6 := by omega
  have hw1 : IntKind.i64.wrap ((n : Int) + 6 - 4) = (n : Int) + 2 := by rw [IntKind.wrap_i64]; omega
  have hd1 : ¬ (120 : Int) < (n : Int) + 6 := by omega
  have hd2 : ¬ ((n : Int) + 6) < 6 := by omega
  have hd3 : ¬ s < 1 := by omega
  have hd4 : ¬ (n : Int) < s := by omega
  have HN := hide hN
  have HC := hide hC
  have HWi := hide hWi
  have HWr := hide hWr
  clear hN hC hWi hWr hvb hnn hq hsl hDD
  go_enter Tryz.func69, Tryz.ntmps69
  go_upto_region 5 with fail
  have g1 : w.grownBy (((w.alloc (.cells #[.int .i64 0, .slice none 0 0, .slice none 0 0] 84)).alloc (.cells #[.int .i64 0, .slice none 0 0, .slice none 0 0] 84)).alloc (.cells #[str L0, .bool false] 160)) none := grown_alloc (grown_alloc (grown_alloc (grown_refl _) _) _) _
  have kR : (((w.alloc (.cells #[.int .i64 0, .slice none 0 0, .slice none 0 0] 84)).alloc (.cells #[.int .i64 0, .slice none 0 0, .slice none 0 0] 84)).alloc (.cells #[str L0, .bool false] 160)).heap[w.heap.size]? = some (.cells #[.int .i64 0, .slice none 0 0, .slice none 0 0] 84) := by simp only [heap_alloc_at, World.size_alloc]; simp; omega
  have kF : (((w.alloc (.cells #[.int .i64 0, .slice none 0 0, .slice none 0 0] 84)).alloc (.cells #[.int .i64 0, .slice none 0 0, .slice none 0 0] 84)).alloc (.cells #[str L0, .bool false] 160)).heap[w.heap.size + 1]? = some (.cells #[.int .i64 0, .slice none 0 0, .slice none 0 0] 84) := by simp only [heap_alloc_at, World.size_alloc]; simp
  have kC : (((w.alloc (.cells #[.int .i64 0, .slice none 0 0, .slice none 0 0] 84)).alloc (.cells #[.int .i64 0, .slice none 0 0, .slice none 0 0] 84)).alloc (.cells #[str L0, .bool false] 160)).heap[w.heap.size + 1 + 1]? = some (.cells #[str L0, .bool false] 160) := by simp only [heap_alloc_at, World.size_alloc]; simp
  generalize (((w.alloc (.cells #[.int .i64 0, .slice none 0 0, .slice none 0 0] 84)).alloc (.cells #[.int .i64 0, .slice none 0 0, .slice none 0 0] 84)).alloc (.cells #[str L0, .bool false] 160)) = w1 at g1 kR kF kC ⊢
  obtain ⟨b4, hb4⟩ : ∃ b, w.heap.size = b := ⟨_, rfl⟩
  rw [hb4] at kR kF kC ⊢
  have HN2 := hide (HN.out (b4 + 1 + 1) w1 kC)
  go_wp2_with fail
  refine HN2.out.mono ?_
  rintro e w2 ⟨rfl, hC2, hF2⟩
  have kR2 := hF2.blk kR (by simp; omega)
  have kF2 := hF2.blk kF (by simp)
  have hFA : Fr [] w w2 := (Fr.ofGrown g1).after hF2 (fun x hx => .inr (by simp at hx; omega))
  have d0 : w2.cell? ⟨b4 + 1, 0, none⟩ = some (.int .i64 0) := cell_blk kF2 0
  have f0 : w2.frozen? ⟨b4 + 1, 0, none⟩ = false := frozen_blk kF2 0
  clear HN HN2 kR kF kC g1 hF2
  go_upto_region 8 with fail
  have kR3 : (w2.setCell ⟨b4 + 1, 0, none⟩ (.int .i64 s)).heap[b4]? = some (.cells #[.int .i64 0, .slice none 0 0, .slice none 0 0] 84) := by rw [Below.heap_setCell _ _ _ _ (by simp)]; exact kR2
  have kF3 : (w2.setCell ⟨b4 + 1, 0, none⟩ (.int .i64 s)).heap[b4 + 1]? = some (.cells #[.int .i64 s, .slice none 0 0, .slice none 0 0] 84) := by rw [set_blk kF2]; rfl
  have kC3 : CuAt (b4 + 1 + 1) L1 false (w2.setCell ⟨b4 + 1, 0, none⟩ (.int .i64 s)) := by unfold CuAt at hC2 ⊢; rw [Below.heap_setCell _ _ _ _ (by simp)]; exact hC2
  have hFB : Fr [] w (w2.setCell ⟨b4 + 1, 0, none⟩ (.int .i64 s)) := hFA.setCell (.inr (by simp; omega)) _
  generalize (w2.setCell ⟨b4 + 1, 0, none⟩ (.int .i64 s)) = w3 at kR3 kF3 kC3 hFB ⊢
  clear d0 f0 kR2 kF2 hC2 hFA
  have HC2 := hide (HC.out (b4 + 1 + 1) w3 kC3)
  go_wp2_with fail
  refine HC2.out.mono ?_
  rintro e w4 ⟨vq, rfl, hR4, hC4, hF4, hO4⟩
  have kR4 := hF4.blk kR3 (by simp; omega)
  have kF4 := hF4.blk kF3 (by simp)
  have hFC : Fr [] w w4 := hFB.after hF4 (fun x hx => .inr (by simp at hx; omega))
  have d1 : w4.cell? ⟨b4 + 1, 1, none⟩ = some (.slice none 0 0) := cell_blk kF4 1
  have f1 : w4.frozen? ⟨b4 + 1, 1, none⟩ = false := frozen_blk kF4 1
  have hb3 : b4 + 1 < w3.heap.size := lt_of_heap kF3
  clear HC HC2 kR3 kF3 kC3 hFB hF4
  obtain ⟨aq, cq, rfl, -⟩ := hR4.value
  rw [intRow_len, clk_len] at hR4 hO4 ⊢
  go_upto_region 9 with fail
  have kR5 : (w4.setCell ⟨b4 + 1, 1, none⟩ (.slice aq n cq)).heap[b4]? = some (.cells #[.int .i64 0, .slice none 0 0, .slice none 0 0] 84) := by rw [Below.heap_setCell _ _ _ _ (by simp)]; exact kR4
  have kF5 : (w4.setCell ⟨b4 + 1, 1, none⟩ (.slice aq n cq)).heap[b4 + 1]? = some (.cells #[.int .i64 s, .slice aq n cq, .slice none 0 0] 84) := by rw [set_blk kF4]; rfl
  have kC5 : CuAt (b4 + 1 + 1) [] false (w4.setCell ⟨b4 + 1, 1, none⟩ (.slice aq n cq)) := by unfold CuAt at hC4 ⊢; rw [Below.heap_setCell _ _ _ _ (by simp)]; exact hC4
  have hR5 : RowAt 3 1 (.slice aq n cq) (intRow (clk n q)) (w4.setCell ⟨b4 + 1, 1, none⟩ (.slice aq n cq)) := hR4.kept (fun g hg => Below.heap_setCell _ _ _ _ (by have := hO4 g hg; simp; omega))
  have hFD : Fr [] w (w4.setCell ⟨b4 + 1, 1, none⟩ (.slice aq n cq)) := hFC.setCell (.inr (by simp; omega)) _
  generalize (w4.setCell ⟨b4 + 1, 1, none⟩ (.slice aq n cq)) = w5 at kR5 kF5 kC5 hR5 hFD ⊢
  clear d1 f1 kR4 kF4 hC4 hFC hR4 hO4
  have c0 : w5.cell? ⟨b4 + 1, 0, none⟩ = some (.int .i64 s) := cell_blk kF5 0
  have c1 : w5.cell? ⟨b4 + 1, 1, none⟩ = some (.slice aq n cq) := cell_blk kF5 1
  have c2 : w5.cell? ⟨b4 + 1, 2, none⟩ = some (.slice none 0 0) := cell_blk kF5 2
  have cc : w5.cell? ⟨b4 + 1 + 1, 1, none⟩ = some (.bool false) := cell_blk kC5 1
  have HWi2 := hide (HWi.out _ w5 hR5)
  go_wp2_with fail
  refine HWi2.out.mono ?_
  rintro e w6 ⟨rfl, hw6⟩
  rw [hw6]
  clear hw6 w6 HWi HWi2
  have HWr2 := hide (HWr.out _ (.slice none 0 0) w5.drew (hR5.kept (fun _ _ => rfl)))
  have hDD : (D == D) = true := by simp
  have n1 : b4 + 1 ≠ b4 := by omega
  have n2 : b4 + 1 + 1 ≠ b4 := by omega
  clear HWr
  go_wp2_with fail
  go_region_held3 (fun w' => w'.cell? ⟨b4 + 1, 0, none⟩ = some (.int .i64 s) ∧ w'.cell? ⟨b4 + 1, 1, none⟩ = some (.slice aq n cq) ∧ w'.cell? ⟨b4 + 1, 2, none⟩ = some (.slice none 0 0) ∧ w'.cell? ⟨b4 + 1 + 1, 1, none⟩ = some (.bool false))
    (first | exact ⟨by rw [set3 n1]; exact ck _ _ c0, by rw [set3 n1]; exact ck _ _ c1, by rw [set3 n1]; exact ck _ _ c2, by rw [set3 n2]; exact ck _ _ cc⟩ | exact ⟨by with_reducible exact ck _ _ c0, ck _ _ c1, ck _ _ c2, ck _ _ cc⟩ | go_keep)
    (first | (go_at_call 42; refine HWr2.out.mono ?_; rintro e w7 ⟨rfl, hg⟩; have ck : ∀ (a : Addr) (x : Value), w5.cell? a = some x → w7.cell? a = some x := (fun a x hx => cell_of_grown hx (grown_trans (grown_drew (grown_refl w5)) hg)); have kR7 : w7.heap[b4]? = some (.cells #[.int .i64 0, .slice none 0 0, .slice none 0 0] 84) := (hg.block b4 (lt_of_heap kR5) (by simp)).trans kR5; have r0 : w7.cell? ⟨b4, 0, none⟩ = some (.int .i64 0) := cell_blk kR7 0; have r1 : w7.cell? ⟨b4, 1, none⟩ = some (.slice none 0 0) := cell_blk kR7 1; have r2 : w7.cell? ⟨b4, 2, none⟩ = some (.slice none 0 0) := cell_blk kR7 2; have z0 : w7.frozen? ⟨b4, 0, none⟩ = false := frozen_blk kR7 0; have z1 : w7.frozen? ⟨b4, 1, none⟩ = false := frozen_blk kR7 1; have z2 : w7.frozen? ⟨b4, 2, none⟩ = false := frozen_blk kR7 2))
  all_goals
    go_wp2_with fail
    have hF8 : Fr [] w (((w7.setCell ⟨b4, 0, none⟩ (.int .i64 s)).setCell ⟨b4, 1, none⟩ (.slice aq n cq)).setCell ⟨b4, 2, none⟩ (.slice none 0 0)) := by
      iterate 3 refine Fr.setCell ?_ (.inr (by simp; omega)) _
      exact (hFD.drew).grown hg (by simp)
    have k8 : (((w7.setCell ⟨b4, 0, none⟩ (.int .i64 s)).setCell ⟨b4, 1, none⟩ (.slice aq n cq)).setCell ⟨b4, 2, none⟩ (.slice none 0 0)).heap[b4]? = some (.cells #[.int .i64 s, .slice aq n cq, .slice none 0 0] 84) := set3_blk kR7
    have hR8 : RowAt 3 1 (.slice aq n cq) (intRow (clk n q)) (((w7.setCell ⟨b4, 0, none⟩ (.int .i64 s)).setCell ⟨b4, 1, none⟩ (.slice aq n cq)).setCell ⟨b4, 2, none⟩ (.slice none 0 0)) := by
      have hx := (hR5.kept (w' := w5.drew) (fun _ _ => rfl)).grown hg
      refine hx.kept (fun g hg2 => ?_)
      have hne : g ≠ b4 := fun e => hx.neBlk kR7 (by decide) (e ▸ hg2)
      iterate 3 rw [Below.heap_setCell _ _ _ _ hne]
    generalize (((w7.setCell ⟨b4, 0, none⟩ (.int .i64 s)).setCell ⟨b4, 1, none⟩ (.slice aq n cq)).setCell ⟨b4, 2, none⟩ (.slice none 0 0)) = w8 at hF8 k8 hR8 ⊢
    clear r0 r1 r2 z0 z1 z2
    have e0 : w8.cell? ⟨b4, 0, none⟩ = some (.int .i64 s) := cell_blk k8 0
    have e1 : w8.cell? ⟨b4, 1, none⟩ = some (.slice aq n cq) := cell_blk k8 1
    have e2 : w8.cell? ⟨b4, 2, none⟩ = some (.slice none 0 0) := cell_blk k8 2
    exact bodyPost_ret (v := .tuple #[.agg #[.int .i64 s, .slice aq n cq, .slice none 0 0], .bool true]) (by simp [results, Tryz.results69, go_sem, e0, e1, e2]) rfl ⟨_, rfl, hR8, hF8.toGrown⟩

end Go.Proofs.YtachmkhbbbmioaaGreat
