import Derived.Test.YtachmkhbbbmioaaGreatGrQX
import Derived.Test.YtachmkhbbbmioaaGreatBytX
import Derived.Test.YtachmkhbbbmioaaGreatBadX
import Derived.Test.YtachmkhbbbmioaaGreatNetGX
import Derived.Test.YtachmkhbbbmioaaGreatFrRX
import Derived.Test.YtachmkhbbbmioaaGreatBuilderX
namespace Go.Proofs.YtachmkhbbbmioaaGreat
open Go.RowKit Go.Shelf
attribute [local go_sem ↓] Go.wp_at_zero Go.wp_at_succ
attribute [local simp] entsAt_drew entsAt_setCell entsAt_alloc

theorem own3_5 {sb ma mp mb : Nat} : ∀ k ∈ own3 sb ma mb, k ∈ own5 sb ma mp mb := by
  intro k hk
  simp only [List.mem_cons, List.not_mem_nil, or_false] at hk ⊢
  omega

set_option maxRecDepth 100000 in
set_option maxHeartbeats 8000000 in
theorem take_any (sb ma mp lb mb : Nat) (S : CS) (hI : Inv S) (y : OpR) (h8 : Ok8 S.n y) (w : World) (hS : StAt sb ma mp lb mb S w) :
    Calls Tryz.prog 90 #[.pointer (some ⟨sb, 0, none⟩), .agg #[.int .i64 y.o, .int .i64 y.num, .int .i64 y.c, .int .i64 y.kind, .int .i64 y.tc, .int .i64 y.tk, .int .i32 y.r, .int .i64 (y.q 0), .int .i64 (y.q 1), .int .i64 (y.q 2), .int .i64 (y.q 3), .int .i64 (y.q 4), .int .i64 (y.q 5), .int .i64 (y.q 6), .int .i64 (y.q 7)]] w fun e w' => e = .returned (.tuple #[]) ∧ StAt sb ma mp lb mb (takesS S y) w' ∧ Fr (own5 sb ma mp mb) w w' := by
  have hlt := hS.lts
  have ho := h8.o
  have hn8 := hI.good.n8
  have hpo : ((y.o.toNat - 1 : Nat) : Int) + 1 = y.o := by omega
  go_enter Tryz.func90, Tryz.ntmps90
  go_wp2_with fail
  have g1 : w.grownBy (w.alloc (.cells #[.int .i64 y.o, .int .i64 y.num, .int .i64 y.c, .int .i64 y.kind, .int .i64 y.tc, .int .i64 y.tk, .int .i32 y.r, .int .i64 (y.q 0), .int .i64 (y.q 1), .int .i64 (y.q 2), .int .i64 (y.q 3), .int .i64 (y.q 4), .int .i64 (y.q 5), .int .i64 (y.q 6), .int .i64 (y.q 7)] 154)) none := grown_alloc (grown_refl _) _
  have k1 : (w.alloc (.cells #[.int .i64 y.o, .int .i64 y.num, .int .i64 y.c, .int .i64 y.kind, .int .i64 y.tc, .int .i64 y.tk, .int .i32 y.r, .int .i64 (y.q 0), .int .i64 (y.q 1), .int .i64 (y.q 2), .int .i64 (y.q 3), .int .i64 (y.q 4), .int .i64 (y.q 5), .int .i64 (y.q 6), .int .i64 (y.q 7)] 154)).heap[w.heap.size]? = some (.cells #[.int .i64 y.o, .int .i64 y.num, .int .i64 y.c, .int .i64 y.kind, .int .i64 y.tc, .int .i64 y.tk, .int .i32 y.r, .int .i64 (y.q 0), .int .i64 (y.q 1), .int .i64 (y.q 2), .int .i64 (y.q 3), .int .i64 (y.q 4), .int .i64 (y.q 5), .int .i64 (y.q 6), .int .i64 (y.q 7)] 154) := by rw [heap_alloc_at]; simp
  have HK0 := knows_any sb ma mp lb mb S (y.o.toNat - 1) (by omega) y.num _ (hS.grown g1)
  rw [hpo] at HK0
  have HK := hide HK0
  clear HK0
  generalize (w.alloc (.cells #[.int .i64 y.o, .int .i64 y.num, .int .i64 y.c, .int .i64 y.kind, .int .i64 y.tc, .int .i64 y.tk, .int .i32 y.r, .int .i64 (y.q 0), .int .i64 (y.q 1), .int .i64 (y.q 2), .int .i64 (y.q 3), .int .i64 (y.q 4), .int .i64 (y.q 5), .int .i64 (y.q 6), .int .i64 (y.q 7)] 154)) = w1 at g1 k1 HK ⊢
  have hS1 := hS.grown g1
  have hbb : ∀ k, k = sb ∨ k = ma ∨ k = mp ∨ k = lb ∨ k = mb → k ≠ w.heap.size := fun k hk => Nat.ne_of_lt (hlt k hk)
  generalize w.heap.size = bb at k1 hbb ⊢
  refine HK.out.mono ?_
  rintro e w2 ⟨b, rfl, g2, hb⟩
  rw [hpo] at hb
  have hS2 := hS1.grown g2
  have k2 := (g2.block _ (lt_of_heap k1) (by simp)).trans k1
  have gA := grown_trans g1 g2
  clear HK g1 g2 hS1 k1
  cases b with
  | true =>
    have HT : Hid (takesS S y = S) := hide (if_pos (hb.1 rfl))
    clear hb
    go_wp2_with fail
    go_end0
    exact ⟨rfl, by rw [HT.out]; exact hS2, (Fr.refl _ w).grown gA (by simp)⟩
  | false =>
    have HNK : Hid (¬ knownS S y) := hide (fun q => absurd (hb.2 q) (by simp))
    clear hb
    have HR := hide (ready_op sb ma mp lb mb S hI.good y h8 w2 hS2)
    have d0 : w2.cell? ⟨bb, 0, none⟩ = some (.int .i64 y.o) := cell_blk k2 0
    have d1 : w2.cell? ⟨bb, 1, none⟩ = some (.int .i64 y.num) := cell_blk k2 1
    have d2 : w2.cell? ⟨bb, 2, none⟩ = some (.int .i64 y.c) := cell_blk k2 2
    have d3 : w2.cell? ⟨bb, 3, none⟩ = some (.int .i64 y.kind) := cell_blk k2 3
    have d4 : w2.cell? ⟨bb, 4, none⟩ = some (.int .i64 y.tc) := cell_blk k2 4
    have d5 : w2.cell? ⟨bb, 5, none⟩ = some (.int .i64 y.tk) := cell_blk k2 5
    have d6 : w2.cell? ⟨bb, 6, none⟩ = some (.int .i32 y.r) := cell_blk k2 6
    have d7 : w2.cell? ⟨bb, 7, none⟩ = some (.int .i64 (y.q 0)) := cell_blk k2 7
    have d8 : w2.cell? ⟨bb, 8, none⟩ = some (.int .i64 (y.q 1)) := cell_blk k2 8
    have d9 : w2.cell? ⟨bb, 9, none⟩ = some (.int .i64 (y.q 2)) := cell_blk k2 9
    have d10 : w2.cell? ⟨bb, 10, none⟩ = some (.int .i64 (y.q 3)) := cell_blk k2 10
    have d11 : w2.cell? ⟨bb, 11, none⟩ = some (.int .i64 (y.q 4)) := cell_blk k2 11
    have d12 : w2.cell? ⟨bb, 12, none⟩ = some (.int .i64 (y.q 5)) := cell_blk k2 12
    have d13 : w2.cell? ⟨bb, 13, none⟩ = some (.int .i64 (y.q 6)) := cell_blk k2 13
    have d14 : w2.cell? ⟨bb, 14, none⟩ = some (.int .i64 (y.q 7)) := cell_blk k2 14
    go_wp2_with fail
    refine HR.out.mono ?_
    rintro e w3 ⟨b, rfl, g3, hb⟩
    have hS3 := hS2.grown g3
    have k3 := (g3.block _ (lt_of_heap k2) (by simp)).trans k2
    have gB := grown_trans gA g3
    clear HR gA g3 hS2 k2
    have x0 : w3.cell? ⟨bb, 0, none⟩ = some (.int .i64 y.o) := cell_blk k3 0
    have x1 : w3.cell? ⟨bb, 1, none⟩ = some (.int .i64 y.num) := cell_blk k3 1
    have x2 : w3.cell? ⟨bb, 2, none⟩ = some (.int .i64 y.c) := cell_blk k3 2
    have x3 : w3.cell? ⟨bb, 3, none⟩ = some (.int .i64 y.kind) := cell_blk k3 3
    have x4 : w3.cell? ⟨bb, 4, none⟩ = some (.int .i64 y.tc) := cell_blk k3 4
    have x5 : w3.cell? ⟨bb, 5, none⟩ = some (.int .i64 y.tk) := cell_blk k3 5
    have x6 : w3.cell? ⟨bb, 6, none⟩ = some (.int .i32 y.r) := cell_blk k3 6
    have x7 : w3.cell? ⟨bb, 7, none⟩ = some (.int .i64 (y.q 0)) := cell_blk k3 7
    have x8 : w3.cell? ⟨bb, 8, none⟩ = some (.int .i64 (y.q 1)) := cell_blk k3 8
    have x9 : w3.cell? ⟨bb, 9, none⟩ = some (.int .i64 (y.q 2)) := cell_blk k3 9
    have x10 : w3.cell? ⟨bb, 10, none⟩ = some (.int .i64 (y.q 3)) := cell_blk k3 10
    have x11 : w3.cell? ⟨bb, 11, none⟩ = some (.int .i64 (y.q 4)) := cell_blk k3 11
    have x12 : w3.cell? ⟨bb, 12, none⟩ = some (.int .i64 (y.q 5)) := cell_blk k3 12
    have x13 : w3.cell? ⟨bb, 13, none⟩ = some (.int .i64 (y.q 6)) := cell_blk k3 13
    have x14 : w3.cell? ⟨bb, 14, none⟩ = some (.int .i64 (y.q 7)) := cell_blk k3 14
    cases b with
    | true =>
      have hr := hb.1 rfl
      have HT : Hid (takesS S y = drainS S.wt.length (applyS S y)) := hide (by unfold takesS; rw [if_neg HNK.out, if_pos hr])
      have HA := apply_any sb ma mp lb mb S hI y h8 hr w3 hS3
      unfold OpR.arr opArr at HA
      have HA := hide HA
      have HI4 := hide (inv_apply hI h8 hr)
      clear hb hr
      go_wp2_with fail
      refine HA.out.mono ?_
      rintro e w4 ⟨rfl, hS4, hF4⟩
      have HD := hide (drain_any sb ma mp lb mb (applyS S y) HI4.out w4 hS4)
      go_wp2_with fail
      refine HD.out.mono ?_
      rintro e w5 ⟨rfl, hS5, hF5⟩
      go_wp2_with fail
      go_end0
      exact ⟨rfl, by rw [HT.out]; exact hS5, (((Fr.refl _ w).grown gB (by simp)).trans (hF4.mono own3_5)).trans hF5⟩
    | false =>
      have HNR : Hid (¬ RdyS S y) := hide (fun q => absurd (hb.2 q) (by simp))
      clear hb
      have c12 : w3.cell? ⟨sb, 12, none⟩ = some (.map (some mp)) := cell_blk hS3.st 12
      obtain ⟨EP, hEP, hPI⟩ := hS3.pen
      have hlen : (Builtin.len_ #[135] 3 #[.map (some mp)]).run Tryz.prog w3 = .ok (.int .i64 S.wt.length) w3 := by
        obtain ⟨n, hp⟩ := hEP
        rw [run_len_map (w := w3) _ _ mp _ n (by kernel_rfl) hp, ← hPI.len]
        simp [goInt]
      by_cases hl : S.wt.length < 16
      · have hli : (S.wt.length : Int) < 16 := by omega
        have HT : Hid (takesS S y = waitS S y) := hide (by unfold takesS; rw [if_neg HNK.out, if_neg HNR.out, if_pos hl])
        have HNW : Hid (¬ ∃ z ∈ S.wt, z.o = y.o ∧ z.num = y.num) := hide (fun q => HNK.out (.inl q))
        obtain ⟨w4, hu4, hc4, hz4, hs4, hg4, m1, he4⟩ := upd_ex keyName (w := w3.drew) hEP y.o y.num (.agg y.arr)
        have HS4 := hide (hS3.wait HNW.out hPI (w' := w4) ⟨hg4.os, hg4.tape, hg4.output, hg4.size, hg4.block⟩ he4)
        have hF4 : Fr (own5 sb ma mp mb) w w4 := (((Fr.refl _ w).grown gB (by simp)).drew).grown hg4 (by rintro k q; cases q; simp)
        unfold OpR.arr opArr at hu4
        clear hl hPI hEP he4 hg4 hs4
        go_wp2_with fail
        go_region_held3 (fun w' => w'.cell? ⟨sb, 12, none⟩ = some (.map (some mp)) ∧ w'.cell? ⟨bb, 0, none⟩ = some (.int .i64 y.o) ∧ w'.cell? ⟨bb, 1, none⟩ = some (.int .i64 y.num) ∧ w'.cell? ⟨bb, 2, none⟩ = some (.int .i64 y.c) ∧ w'.cell? ⟨bb, 3, none⟩ = some (.int .i64 y.kind) ∧ w'.cell? ⟨bb, 4, none⟩ = some (.int .i64 y.tc) ∧ w'.cell? ⟨bb, 5, none⟩ = some (.int .i64 y.tk) ∧ w'.cell? ⟨bb, 6, none⟩ = some (.int .i32 y.r) ∧ w'.cell? ⟨bb, 7, none⟩ = some (.int .i64 (y.q 0)) ∧ w'.cell? ⟨bb, 8, none⟩ = some (.int .i64 (y.q 1)) ∧ w'.cell? ⟨bb, 9, none⟩ = some (.int .i64 (y.q 2)) ∧ w'.cell? ⟨bb, 10, none⟩ = some (.int .i64 (y.q 3)) ∧ w'.cell? ⟨bb, 11, none⟩ = some (.int .i64 (y.q 4)) ∧ w'.cell? ⟨bb, 12, none⟩ = some (.int .i64 (y.q 5)) ∧ w'.cell? ⟨bb, 13, none⟩ = some (.int .i64 (y.q 6)) ∧ w'.cell? ⟨bb, 14, none⟩ = some (.int .i64 (y.q 7))) (go_keep) (fail)
        go_wp2_with fail
        go_end0
        exact ⟨rfl, by rw [HT.out]; exact HS4.out, hF4⟩
      · have hli : ¬ (S.wt.length : Int) < 16 := by omega
        have HT : Hid (takesS S y = S) := hide (by unfold takesS; rw [if_neg HNK.out, if_neg HNR.out, if_neg hl])
        clear hl
        go_wp2_with fail
        go_end0
        exact ⟨rfl, by rw [HT.out]; exact hS3, (Fr.refl _ w).grown gB (by simp)⟩

end Go.Proofs.YtachmkhbbbmioaaGreat

namespace Go.Proofs.YtachmkhbbbmioaaGreat
open Go.RowKit

/-- Where a varint ends: the first byte below 128 of so many. -/
def vidx : Nat → List UInt8 → Option Nat
  | 0, _ => none
  | _ + 1, [] => none
  | f + 1, b :: l => if b.toNat < 128 then some 0 else (vidx f l).map (· + 1)

/-- What its first bytes stand for. -/
def vval : Nat → List UInt8 → Int
  | 0, _ => 0
  | i + 1, L => vval i L + ((L.getD i 0).toNat % 128 : Nat) * 128 ^ i

theorem vval_in (L : List UInt8) : ∀ i, 0 ≤ vval i L ∧ vval i L < 128 ^ i
  | 0 => by simp [vval]
  | i + 1 => by
    have h := vval_in L i
    have h2 : ((L.getD i 0).toNat % 128 : Nat) < 128 := Nat.mod_lt _ (by omega)
    have h3 : (0 : Int) < 128 ^ i := Int.pow_pos (by omega)
    rw [vval, Int.pow_succ]
    generalize ((L.getD i 0).toNat % 128 : Nat) = x at h2
    generalize (128 : Int) ^ i = p at h h3
    constructor
    · have : (0 : Int) ≤ (x : Int) * p := Int.mul_nonneg (by omega) (by omega)
      omega
    · have : (x : Int) * p ≤ 127 * p := Int.mul_le_mul_of_nonneg_right (by omega) (by omega)
      omega

/-- A varint off the front, as the program reads it. -/
def rvar (L : List UInt8) (bad : Bool) : Int × List UInt8 × Bool :=
  match vidx 9 L with
  | none => (0, L, true)
  | some i => (vval (i + 1) L, L.drop (i + 1), bad || !(decide (0 < (L.getD i 0).toNat) || decide (i = 0)))

/-- All of the first i bytes go on. -/
def goesOn (i : Nat) (L : List UInt8) : Prop := i ≤ L.length ∧ ∀ j, j < i → 128 ≤ (L.getD j 0).toNat

theorem vidx_at : ∀ (f i : Nat) (L : List UInt8), i < f → i < L.length → (∀ j, j < i → 128 ≤ (L.getD j 0).toNat) → (L.getD i 0).toNat < 128 → vidx f L = some i
  | 0, i, L, h, _, _, _ => by omega
  | f + 1, i, [], _, h, _, _ => by simp at h
  | f + 1, 0, b :: l, _, _, _, h => by
    have : b.toNat < 128 := by simpa using h
    rw [vidx, if_pos this]
  | f + 1, i + 1, b :: l, h1, h2, h3, h4 => by
    have hb : ¬ b.toNat < 128 := by have := h3 0 (by omega); simp at this; omega
    rw [vidx, if_neg hb, vidx_at f i l (by omega) (by simpa using h2) (fun j hj => by have := h3 (j + 1) (by omega); simpa using this) (by simpa using h4)]
    rfl

theorem vidx_none : ∀ (f : Nat) (L : List UInt8), (∀ j, j < f → j < L.length → 128 ≤ (L.getD j 0).toNat) → vidx f L = none
  | 0, L, _ => by cases L <;> rfl
  | f + 1, [], _ => rfl
  | f + 1, b :: l, h => by
    have hb : ¬ b.toNat < 128 := by have := h 0 (by omega) (by simp); simp at this; omega
    rw [vidx, if_neg hb, vidx_none f l (fun j hj hl => by have := h (j + 1) (by omega) (by simpa using hl); simpa using this)]
    rfl

/-- A number put above others. -/
theorem or_above (a x : Int) (i : Nat) (hi : i ≤ 8) (ha : 0 ≤ a ∧ a < 128 ^ i) (hx : 0 ≤ x ∧ x < 128) : bits .or .i64 a (x * 128 ^ i) = a + x * 128 ^ i := by
  obtain ⟨A, rfl⟩ := Int.eq_ofNat_of_zero_le ha.1
  obtain ⟨X, rfl⟩ := Int.eq_ofNat_of_zero_le hx.1
  have hp : (128 : Int) ^ i = ((2 ^ (7 * i) : Nat) : Int) := by
    rw [Nat.pow_mul]
    simp
  rw [hp] at ha ⊢
  have hA : A < 2 ^ (7 * i) := by omega
  have hX : X < 128 := by omega
  have h56 : 2 ^ (7 * i) ≤ 2 ^ 56 := Nat.pow_le_pow_right (by omega) (by omega)
  have hXP : X * 2 ^ (7 * i) ≤ 127 * 2 ^ 56 := Nat.mul_le_mul (by omega) h56
  have e1 : ((X : Int) * ((2 ^ (7 * i) : Nat) : Int)) = ((X * 2 ^ (7 * i) : Nat) : Int) := by simp
  rw [e1]
  show IntKind.i64.wrap ((BitVec.ofInt 64 (A : Int) ||| BitVec.ofInt 64 ((X * 2 ^ (7 * i) : Nat) : Int)).toNat : Int) = _
  have e2 : (BitVec.ofInt 64 (A : Int) ||| BitVec.ofInt 64 ((X * 2 ^ (7 * i) : Nat) : Int)).toNat = A + X * 2 ^ (7 * i) := by
    rw [BitVec.toNat_or, BitVec.ofInt_natCast, BitVec.ofInt_natCast, BitVec.toNat_ofNat, BitVec.toNat_ofNat, Nat.mod_eq_of_lt (by omega), Nat.mod_eq_of_lt (by omega), Nat.or_comm, Nat.mul_comm X, ← Nat.two_pow_add_eq_or_of_lt hA]
    omega
  rw [e2, IntKind.wrap_i64]
  omega

theorem vval_cons (b : UInt8) (l : List UInt8) : ∀ i, vval (i + 1) (b :: l) = ((b.toNat % 128 : Nat) : Int) + 128 * vval i l
  | 0 => by simp [vval]
  | i + 1 => by
    rw [vval, vval_cons b l i, vval]
    have : (b :: l).getD (i + 1) 0 = l.getD i 0 := by simp
    rw [this, Int.pow_succ]
    generalize ((l.getD i 0).toNat % 128 : Nat) = y
    generalize (128 : Int) ^ i = p
    have e : (y : Int) * (p * 128) = 128 * ((y : Int) * p) := by rw [← Int.mul_assoc, Int.mul_comm]
    rw [e]; omega

theorem ofNat_toNat8 (b : UInt8) : UInt8.ofNat b.toNat = b := by simp

/-- What ends well is the varint of what it stands for. -/
theorem vb_of : ∀ (i : Nat) (L : List UInt8), i < L.length → (∀ j, j < i → 128 ≤ (L.getD j 0).toNat) → (L.getD i 0).toNat < 128 → (0 < (L.getD i 0).toNat ∨ i = 0) → vb (vval (i + 1) L).toNat = L.take (i + 1) ∧ (0 < (L.getD i 0).toNat → 0 < vval (i + 1) L)
  | _, [], h, _, _, _ => by simp at h
  | 0, b :: l, _, _, h4, _ => by
    have hb : b.toNat < 128 := by simpa using h4
    have e : vval 1 (b :: l) = (b.toNat : Int) := by
      rw [vval_cons, vval, Nat.mod_eq_of_lt hb]; omega
    rw [e, Int.toNat_natCast, vb_small hb, ofNat_toNat8]
    refine ⟨by simp, fun h => ?_⟩
    have : 0 < b.toNat := by simpa using h
    omega
  | i + 1, b :: l, h1, h3, h4, h5 => by
    have hpos : 0 < (l.getD i 0).toNat := by
      rcases h5 with h | h
      · simpa using h
      · omega
    have hb : 128 ≤ b.toNat := by have := h3 0 (by omega); simpa using this
    have hbl := b.toNat_lt
    obtain ⟨e1, e2⟩ := vb_of i l (by simpa using h1) (fun j hj => by have := h3 (j + 1) (by omega); simpa using this) (by simpa using h4) (.inl hpos)
    have hv := e2 hpos
    have hm : b.toNat % 128 = b.toNat - 128 := by omega
    rw [vval_cons, hm]
    have h6 : (((b.toNat - 128 : Nat) : Int) + 128 * vval (i + 1) l).toNat = (b.toNat - 128) + 128 * (vval (i + 1) l).toNat := by omega
    rw [h6, vb_great (by omega)]
    have h7 : ((b.toNat - 128) + 128 * (vval (i + 1) l).toNat) % 128 + 128 = b.toNat := by omega
    have h8 : ((b.toNat - 128) + 128 * (vval (i + 1) l).toNat) / 128 = (vval (i + 1) l).toNat := by omega
    rw [h7, h8, e1, ofNat_toNat8]
    exact ⟨by simp, fun _ => by omega⟩

/-- A varint is read as what was written. -/
theorem vb_back : ∀ (k u : Nat), u < 128 ^ (k + 1) → ∀ (rest : List UInt8), ∃ i, i ≤ k ∧ i < (vb u ++ rest).length ∧ (∀ j, j < i → 128 ≤ ((vb u ++ rest).getD j 0).toNat) ∧ ((vb u ++ rest).getD i 0).toNat < 128 ∧ (0 < ((vb u ++ rest).getD i 0).toNat ∨ i = 0) ∧ vval (i + 1) (vb u ++ rest) = (u : Int) ∧ (vb u ++ rest).drop (i + 1) = rest ∧ (0 < u → 0 < ((vb u ++ rest).getD i 0).toNat)
  | k, u, h, rest => by
    by_cases q : u < 128
    · have e : (UInt8.ofNat u).toNat = u := by simp; omega
      refine ⟨0, by omega, ?_, by intro j hj; omega, ?_, .inr rfl, ?_, ?_, ?_⟩
      · rw [vb_small q]; simp
      · rw [vb_small q]; simpa [e] using q
      · rw [vb_small q]
        show vval 1 (UInt8.ofNat u :: rest) = _
        rw [vval_cons, vval, e, Nat.mod_eq_of_lt q]; omega
      · rw [vb_small q]; rfl
      · intro h0
        rw [vb_small q]
        simpa [e] using h0
    · match k, h with
      | 0, h => omega
      | k + 1, h =>
        have hlt : u / 128 < 128 ^ (k + 1) := by rw [Nat.div_lt_iff_lt_mul (by omega)]; rw [Nat.pow_succ] at h; omega
        obtain ⟨i, h1, h2, h3, h4, h5, h6, h7, h8⟩ := vb_back k (u / 128) hlt rest
        have e : (UInt8.ofNat (u % 128 + 128)).toNat = u % 128 + 128 := by simp; omega
        rw [vb_great (by omega), List.cons_append]
        refine ⟨i + 1, by omega, by simpa using h2, ?_, by simpa using h4, .inl (by simpa using h8 (by omega)), ?_, by simpa using h7, fun _ => by simpa using h8 (by omega)⟩
        · intro j hj
          match j with
          | 0 => simp only [List.getD_cons_zero, e]; omega
          | j + 1 => have := h3 j (by omega); simpa using this
        · rw [vval_cons, h6, e]
          have : (u % 128 + 128) % 128 = u % 128 := by omega
          rw [this]; omega

/-- What reading must give: what was written, and nothing else counts as read. -/
def Dec {α : Type} (enc : α → List UInt8) (ok : α → Prop) (L : List UInt8) (bad : Bool) (v : α) (L' : List UInt8) (bad' : Bool) : Prop :=
  (bad' = false → bad = false ∧ ok v ∧ L = enc v ++ L') ∧ (bad = false → ∀ u rest, ok u → L = enc u ++ rest → bad' = false ∧ v = u ∧ L' = rest)

def vbI (v : Int) : List UInt8 := vb v.toNat

theorem vidx_some : ∀ (f : Nat) (L : List UInt8) (i : Nat), vidx f L = some i → i < f ∧ i < L.length ∧ (∀ j, j < i → 128 ≤ (L.getD j 0).toNat) ∧ (L.getD i 0).toNat < 128
  | 0, L, i, h => by cases L <;> cases h
  | f + 1, [], i, h => by cases h
  | f + 1, b :: l, i, h => by
    rw [vidx] at h
    split at h
    · rename_i hb
      cases h
      exact ⟨by omega, by simp, by intro j hj; omega, by simpa using hb⟩
    · rename_i hb
      obtain ⟨k, hk, rfl⟩ := Option.map_eq_some_iff.1 h
      obtain ⟨h1, h2, h3, h4⟩ := vidx_some f l k hk
      refine ⟨by omega, by simpa using h2, ?_, by simpa using h4⟩
      intro j hj
      match j with
      | 0 => simp only [List.getD_cons_zero]; omega
      | j + 1 => have := h3 j (by omega); simpa using this

theorem rvar_dec (L : List UInt8) (bad : Bool) : Dec vbI (fun v => 0 ≤ v ∧ v < 9223372036854775808) L bad (rvar L bad).1 (rvar L bad).2.1 (rvar L bad).2.2 ∧ (0 ≤ (rvar L bad).1 ∧ (rvar L bad).1 < 9223372036854775808) ∧ (rvar L bad).2.1.length ≤ L.length := by
  have comp : bad = false → ∀ (u : Int) rest, (0 ≤ u ∧ u < 9223372036854775808) → L = vbI u ++ rest → (rvar L bad).2.2 = false ∧ (rvar L bad).1 = u ∧ (rvar L bad).2.1 = rest := by
    intro hb u rest hu hL
    obtain ⟨i, h1, h2, h3, h4, h5, h6, h7, -⟩ := vb_back 8 u.toNat (by omega) rest
    rw [show vb u.toNat ++ rest = L from hL.symm] at h2 h3 h4 h5 h6 h7
    have e : rvar L bad = (vval (i + 1) L, L.drop (i + 1), bad || !(decide (0 < (L.getD i 0).toNat) || decide (i = 0))) := by unfold rvar; rw [vidx_at 9 i L (by omega) h2 h3 h4]
    rw [e]
    refine ⟨?_, by rw [h6]; omega, h7⟩
    show (bad || !(decide (0 < (L.getD i 0).toNat) || decide (i = 0))) = false
    rw [hb]
    rcases h5 with h | h
    · rw [decide_eq_true h]; rfl
    · rw [decide_eq_true h, Bool.or_true]; rfl
  cases hv : vidx 9 L with
  | none =>
    have e : rvar L bad = (0, L, true) := by unfold rvar; rw [hv]
    refine ⟨⟨fun h => ?_, comp⟩, ?_, ?_⟩
    · rw [e] at h; cases h
    · rw [e]; simp
    · rw [e]; simp
  | some i =>
    obtain ⟨h1, h2, h3, h4⟩ := vidx_some 9 L i hv
    have e : rvar L bad = (vval (i + 1) L, L.drop (i + 1), bad || !(decide (0 < (L.getD i 0).toNat) || decide (i = 0))) := by unfold rvar; rw [hv]
    have hin := vval_in L (i + 1)
    have hp : (128 : Int) ^ (i + 1) ≤ 128 ^ 9 := by
      have : (128 : Nat) ^ (i + 1) ≤ 128 ^ 9 := Nat.pow_le_pow_right (by omega) (by omega)
      exact_mod_cast this
    have h9 : (128 : Int) ^ 9 = 9223372036854775808 := by decide
    refine ⟨⟨fun h => ?_, comp⟩, ?_, ?_⟩
    · rw [e] at h ⊢
      simp only [Bool.or_eq_false_iff, Bool.not_eq_false', Bool.or_eq_true, decide_eq_true_eq] at h
      obtain ⟨e1, -⟩ := vb_of i L h2 h3 h4 h.2
      refine ⟨h.1, by omega, ?_⟩
      show L = vb (vval (i + 1) L).toNat ++ L.drop (i + 1)
      rw [e1, List.take_append_drop]
    · rw [e]; omega
    · rw [e]; simp

end Go.Proofs.YtachmkhbbbmioaaGreat

namespace Go.Proofs.YtachmkhbbbmioaaGreat
open Go.RowKit

def tEnc (t : Int × Int) : List UInt8 := vbI t.1 ++ vbI t.2
def tOk (n : Nat) (c kind : Int) (t : Int × Int) : Prop := (t.1 = 0 ∧ t.2 = 0 ∧ kind = 0) ∨ (1 ≤ t.1 ∧ t.1 ≤ c - 1 ∧ 1 ≤ t.2 ∧ t.2 ≤ n)
def cEnc (n : Nat) (q : Nat → Int) : List UInt8 := vbs (clk n q)
def cOk (n : Nat) (q : Nat → Int) : Prop := (∀ i, i < n → 0 ≤ q i ∧ q i ≤ 100) ∧ ∀ i, n ≤ i → q i = 0
def rEnc (kind : Int) (r : Int) : List UInt8 := if kind = 0 then vbI r else []
def rOk (kind : Int) (r : Int) : Prop := (kind = 0 → Sc r) ∧ (kind = 1 → r = 0)

theorem bytes_eq (n : Nat) (x : OpR) : x.bytes n = vbI x.o ++ (vbI x.num ++ (vbI x.c ++ (vbI x.kind ++ (tEnc (x.tc, x.tk) ++ (rEnc x.kind x.r ++ cEnc n x.q))))) := by
  unfold OpR.bytes OpR.nums tEnc rEnc cEnc vbI
  by_cases h : x.kind = 0
  · simp [vbs, h]
  · simp [vbs, h]

theorem op_dec {n : Nat} {L L1 L2 L3 L4 L5 L6 L7 : List UInt8} {b b1 b2 b3 b4 b5 b6 b7 : Bool} {o num c kind : Int} {t : Int × Int} {r : Int} {q : Nat → Int}
    (d1 : Dec vbI (fun v => 1 ≤ v ∧ v ≤ (n : Int)) L b o L1 b1) (d2 : Dec vbI (fun v => 1 ≤ v ∧ v ≤ 100) L1 b1 num L2 b2) (d3 : Dec vbI (fun v => 1 ≤ v ∧ v ≤ 1099511627776) L2 b2 c L3 b3) (d4 : Dec vbI (fun v => 0 ≤ v ∧ v ≤ 1) L3 b3 kind L4 b4)
    (d5 : Dec tEnc (tOk n c kind) L4 b4 t L5 b5) (d6 : Dec (rEnc kind) (rOk kind) L5 b5 r L6 b6) (d7 : Dec (cEnc n) (cOk n) L6 b6 q L7 b7) :
    Dec (OpR.bytes n) (Ok8 n) L b ⟨o, num, c, kind, t.1, t.2, r, q⟩ L7 (b7 || !decide (q (o.toNat - 1) = num - 1)) := by
  refine ⟨fun h => ?_, fun h u rest hu hL => ?_⟩
  · simp only [Bool.or_eq_false_iff, Bool.not_eq_false', decide_eq_true_eq] at h
    obtain ⟨e7, k7, l7⟩ := d7.1 h.1
    obtain ⟨e6, k6, l6⟩ := d6.1 e7
    obtain ⟨e5, k5, l5⟩ := d5.1 e6
    obtain ⟨e4, k4, l4⟩ := d4.1 e5
    obtain ⟨e3, k3, l3⟩ := d3.1 e4
    obtain ⟨e2, k2, l2⟩ := d2.1 e3
    obtain ⟨e1, k1, l1⟩ := d1.1 e2
    refine ⟨e1, ⟨k1, k2, k3, k4, k5, k6.1, k6.2, k7.1, k7.2, h.2⟩, ?_⟩
    rw [l1, l2, l3, l4, l5, l6, l7, bytes_eq]
    simp only [List.append_assoc]
  · rw [bytes_eq] at hL
    simp only [List.append_assoc] at hL
    obtain ⟨e1, v1, m1⟩ := d1.2 h u.o _ hu.o hL
    obtain ⟨e2, v2, m2⟩ := d2.2 e1 u.num _ hu.num m1
    obtain ⟨e3, v3, m3⟩ := d3.2 e2 u.c _ hu.c m2
    obtain ⟨e4, v4, m4⟩ := d4.2 e3 u.kind _ hu.kind m3
    subst v1 v2 v3 v4
    obtain ⟨e5, v5, m5⟩ := d5.2 e4 (u.tc, u.tk) _ hu.tgt m4
    obtain ⟨e6, v6, m6⟩ := d6.2 e5 u.r _ ⟨hu.r, hu.r1⟩ m5
    obtain ⟨e7, v7, m7⟩ := d7.2 e6 u.q _ ⟨hu.q, hu.q0⟩ m6
    subst v5 v6 v7
    refine ⟨?_, rfl, m7⟩
    rw [e7, decide_eq_true hu.own]; rfl

/-- Operations, one behind the other. -/
def opsEnc (n : Nat) (l : List OpR) : List UInt8 := l.flatMap (OpR.bytes n)

theorem ops_dec {n : Nat} {L L1 L2 : List UInt8} {b b1 b2 : Bool} {l : List OpR} {x : OpR} (d1 : Dec (opsEnc n) (fun m => m.length = l.length ∧ ∀ y ∈ m, Ok8 n y) L b l L1 b1) (d2 : Dec (OpR.bytes n) (Ok8 n) L1 b1 x L2 b2) :
    Dec (opsEnc n) (fun m => m.length = l.length + 1 ∧ ∀ y ∈ m, Ok8 n y) L b (l ++ [x]) L2 b2 := by
  refine ⟨fun h => ?_, fun h u rest hu hL => ?_⟩
  · obtain ⟨e2, k2, l2⟩ := d2.1 h
    obtain ⟨e1, k1, l1⟩ := d1.1 e2
    refine ⟨e1, ⟨by simp, fun y hy => ?_⟩, ?_⟩
    · rcases List.mem_append.1 hy with hy | hy
      · exact k1.2 y hy
      · simp at hy; subst hy; exact k2
    · rw [l1, l2]; simp [opsEnc]
  · obtain ⟨m, z, rfl⟩ : ∃ m z, u = m ++ [z] := by
      have hne : u ≠ [] := by intro e; rw [e] at hu; simp at hu
      exact ⟨u.dropLast, u.getLast hne, (List.dropLast_concat_getLast hne).symm⟩
    have hml : m.length = l.length := by have := hu.1; simp at this; omega
    have hL' : L = opsEnc n m ++ (z.bytes n ++ rest) := by rw [hL]; simp [opsEnc]
    obtain ⟨e1, v1, m1⟩ := d1.2 h m _ ⟨hml, fun y hy => hu.2 y (by simp [hy])⟩ hL'
    obtain ⟨e2, v2, m2⟩ := d2.2 e1 z _ (hu.2 z (by simp)) m1
    exact ⟨e2, by rw [v1, v2], m2⟩

end Go.Proofs.YtachmkhbbbmioaaGreat

namespace Go.Proofs.YtachmkhbbbmioaaGreat
open Go.RowKit Go.Shelf

/-- A cursor of the document's: what is left, whether something was wrong. -/
def CuAt (cb : Nat) (l : List UInt8) (bad : Bool) (w : World) : Prop := w.heap[cb]? = some (.cells #[str l, .bool bad] 160)

set_option maxRecDepth 100000 in
set_option maxHeartbeats 2000000 in
theorem cuNumR (cb : Nat) (b : UInt8) (hb : b.toNat < 128) (L : List UInt8) (hL0 : L[0]? = some b) (hl : L.length ≤ 1000) (w : World) (h : CuAt cb L false w) :
    Calls Tryz.prog 95 #[.pointer (some ⟨cb, 0, none⟩)] w fun e w' => e = .returned (.int .i64 (b.toNat : Int)) ∧ CuAt cb (L.drop 1) false w' ∧ Fr [cb] w w' := by
  have c0 : w.cell? ⟨cb, 0, none⟩ = some (str L) := cell_blk h 0
  have f0 : w.frozen? ⟨cb, 0, none⟩ = false := frozen_blk h 0
  have hlp : 0 < L.length := (List.getElem?_eq_some_iff.1 hL0).1
  have hlpi : (0 : Int) < (L.length : Int) := by omega
  have hx : ∀ w, (Instr.index 9 (str L) (.int .i64 0)).run Tryz.prog w = .ok (.int .u8 (b.toNat : Int)) w := fun w => sindex L 0 b hL0 w
  have hdr : ∀ w, (Instr.slice 9 (str L) (some (.int .i64 1)) none none).run Tryz.prog w = .ok (str (L.drop 1)) w := fun w => str_drop L 1 (by omega) w
  have hbi : (b.toNat : Int) < 128 := by omega
  have hb0 : (0 : Int) ≤ (b.toNat : Int) := by omega
  have e1 : (b.toNat : Int) % 128 = (b.toNat : Int) := by omega
  have H : Hid (w.heap[cb]? = some (.cells #[str L, .bool false] 160)) := h
  generalize L.drop 1 = D at hdr ⊢
  clear hL0 hb h
  generalize (b.toNat : Int) = x at hx hbi hb0 e1 ⊢
  have hwx : IntKind.i64.wrap x = x := by rw [IntKind.wrap_i64]; omega
  go_enter Tryz.func95, Tryz.ntmps95
  go_wp2_with fail
  go_loopg [3, 4, 5] 1 (fun _ s3 s4 s5 wr => s3 = .int .i64 0 ∧ s4 = .int .i64 1 ∧ s5 = .int .i64 0 ∧ wr = w)
  case atStart => exact ⟨rfl, rfl, rfl, rfl⟩
  case round =>
    obtain ⟨rfl, rfl, rfl, hw⟩ := hrel
    rw [hw]
    clear hw wr
    go_wp2_with fail
    go_ret
    refine ⟨rfl, ?_, (Fr.refl _ w).setCell (.inl (by simp)) _⟩
    unfold CuAt
    rw [set_blk H.out]; rfl

theorem intRow_one (l : List Int) : ∀ y ∈ intRow l, y.length = 1 := by
  intro y hy
  obtain ⟨x, -, rfl⟩ := List.mem_map.1 hy
  rfl
theorem intRow_cell (l : List Int) : ∀ y ∈ intRow l, ∀ c ∈ y, c.oneCell' = true := by
  intro y hy c hc
  obtain ⟨x, -, rfl⟩ := List.mem_map.1 hy
  simp only [List.mem_cons, List.not_mem_nil, or_false] at hc
  rw [hc]; rfl
theorem clk_snoc (i : Nat) (q : Nat → Int) : clk (i + 1) q = clk i q ++ [q i] := by
  unfold clk
  rw [List.range_succ, List.map_append]; rfl

set_option maxRecDepth 100000 in
set_option maxHeartbeats 4000000 in
theorem cuClkR (cb n : Nat) (h8 : n ≤ 8) (q : Nat → Int) (hq : ∀ i, i < n → 0 ≤ q i ∧ q i ≤ 100) (w : World) (h : CuAt cb (smalls n q) false w) :
    Calls Tryz.prog 96 #[.pointer (some ⟨cb, 0, none⟩), .int .i64 n] w fun e w' => ∃ v, e = .returned v ∧ RowAt 3 1 v (intRow (clk n q)) w' ∧ CuAt cb [] false w' ∧ Fr [cb] w w' ∧ (∀ g, v.ownBlock = some g → w.heap.size ≤ g) := by
  have hclt : cb < w.heap.size := lt_of_heap h
  go_enter Tryz.func96, Tryz.ntmps96
  go_wp2_with fail
  go_loopg [5, 6] n (fun gk s5 s6 wr => ∃ (i : Nat), s6 = .int .i64 i ∧ i ≤ n ∧ gk = n - i ∧ CuAt cb ((smalls n q).drop i) false wr ∧ RowAt 3 1 s5 (intRow (clk i q)) wr ∧ Fr [cb] w wr ∧ (∀ g, s5.ownBlock = some g → w.heap.size ≤ g))
  case atStart => exact ⟨0, rfl, by omega, rfl, h, row_nil _ _ _, Fr.refl _ _, by simp [Value.ownBlock]⟩
  case round =>
    clear h
    obtain ⟨i, rfl, hil, hgk, hC, hR, hF, hO⟩ := hrel
    by_cases hlt : i < n
    · have hli : (i : Int) < (n : Int) := by omega
      have hqi := hq i hlt
      have hnn := small_nat hqi.1 hqi.2
      have HS := hide (cuNumR cb (UInt8.ofNat (q i).toNat) (by omega) ((smalls n q).drop i) (by rw [List.getElem?_drop]; exact smalls_at q hlt) (by simp [smalls_len]; omega) wr hC)
      rw [hnn, List.drop_drop] at HS
      have hcb : ∀ g, u5.ownBlock = some g → g ≠ cb := fun g hg => by have := hO g hg; omega
      go_wp2_with fail
      refine HS.out.mono ?_
      rintro e w2 ⟨rfl, hC2, hF2⟩
      have hR2 := hR.kept (w' := w2) (fun g hg => hF2.block g (hR.lt hg) (by simpa using hcb g hg))
      have g3 : w2.grownBy (w2.alloc (.cells #[.int .i64 (q i)] 3)) none := grown_alloc (grown_refl _) _
      have hSr : SrcAt (w2.alloc (.cells #[.int .i64 (q i)] 3)) (.slice (some ⟨w2.heap.size, 0, none⟩) 1 1) (intRow [q i]) := src_new w2 [.int .i64 (q i)] _
      have hR3 := hR2.grown g3
      have hFA := (hF.trans hF2).grown g3 (by simp)
      have lr : (intRow (clk i q)).length = i := by rw [intRow_len, clk_len]
      have l1 : (intRow [q i]).length = 1 := rfl
      go_wp2_with (at_builtin; refine wpList_row Tryz.underlying40 infoInts rfl (by decide) rfl _ _ rfl u5 _ rfl hR3 _ _ rfl hSr (intRow_one _) (intRow_cell _) (by unfold maxLen; omega) (by omega) ?_; intro v5 w5 hR5 hg5 hat)
      go_roundg (n - (i + 1))
      case measure => omega
      case rel =>
        refine ⟨i + 1, by go_num, by omega, rfl, ?_, ?_, hFA.grown hg5 (fun k hk => .inr (hO k hk)), fun g hg => ?_⟩
        · exact (hg5.block cb (by have := g3.size; have := hF2.size; have := hF.size; omega) (fun q => hcb cb q.symm rfl)).trans ((g3.block cb (by have := hF2.size; have := hF.size; omega) (by simp)).trans hC2)
        · rw [clk_snoc]
          have : intRow (clk i q ++ [q i]) = intRow (clk i q) ++ intRow [q i] := by simp [intRow]
          rw [this]; exact hR5
        · rcases hat with hat | hat
          · exact hO g (hat ▸ hg)
          · rw [hat] at hg; cases hg; exact hFA.size
    · obtain rfl : i = n := by omega
      rw [List.drop_of_length_le (by rw [smalls_len]; omega)] at hC
      go_wp2_with fail
      go_ret
      exact ⟨_, rfl, hR, hC, hF, hO⟩

set_option maxRecDepth 100000 in
set_option maxHeartbeats 1000000 in
theorem withinR (xs : List Int) (hxs : ∀ x ∈ xs, x ≤ 100) (hl : xs.length ≤ 1000) (v : Value) (w : World) (hv : RowAt 3 1 v (intRow xs) w) :
    Calls Tryz.prog 97 #[v] w fun e w' => e = .returned (.bool true) ∧ w' = w := by
  obtain ⟨av, cv, rfl, hcv⟩ := hv.value
  rw [intRow_len] at hv hcv ⊢
  go_enter Tryz.func97, Tryz.ntmps97
  go_wp2_with fail
  go_loopg [3] xs.length (fun g s3 wr => ∃ (i : Nat), s3 = .int .i64 i ∧ i ≤ xs.length ∧ g = xs.length - i ∧ wr = w)
  case atStart => exact ⟨0, rfl, by omega, rfl, rfl⟩
  case round =>
    obtain ⟨i, rfl, hil, hgk, hw⟩ := hrel
    rw [hw]
    clear hw wr
    by_cases hlt : i < xs.length
    · have hli : (i : Int) < (xs.length : Int) := by omega
      obtain ⟨x, hx⟩ : ∃ x, xs[i]? = some x := ⟨xs[i], by simp [hlt]⟩
      have hxb := hxs x (List.mem_of_getElem? hx)
      obtain ⟨g1, c1, cur1, hv1, -, hb1, hx1⟩ := hv.cell (i := i) (intRow_at hx)
      rw [intRow_len] at hv1
      cases hv1
      have k1 : w.cell? ⟨g1, i, none⟩ = some (.int .i64 x) := (cell_blk hb1 _).trans (by simpa using hx1 0 _ rfl)
      clear hx1
      have hxn : ¬ (100 : Int) < x := by omega
      go_wp2_with fail
      go_roundg (xs.length - (i + 1))
      case measure => omega
      case rel => exact ⟨i + 1, by go_num, by omega, rfl, rfl⟩
    · go_wp2_with fail
      go_ret
      exact ⟨rfl, rfl⟩

end Go.Proofs.YtachmkhbbbmioaaGreat

namespace Go.Proofs.YtachmkhbbbmioaaGreat
open Go.RowKit Go.Shelf

/-- What was written is read, and ends where it ends. -/
def Cmp {α : Type} (enc : α → List UInt8) (ok : α → Prop) (L : List UInt8) (bad : Bool) (v : α) (L' : List UInt8) (bad' : Bool) : Prop :=
  bad = false → ∀ u rest, ok u → L = enc u ++ rest → bad' = false ∧ v = u ∧ L' = rest

/-- A number off the front, as the document's cursor reads it: seven bytes at most, in no form of its own. -/
def rnum (L : List UInt8) (bad : Bool) : Int × List UInt8 × Bool :=
  match vidx 7 L with
  | none => (0, L, true)
  | some i => (vval (i + 1) L, L.drop (i + 1), bad)

def N7 (v : Int) : Prop := 0 ≤ v ∧ v < 562949953421312

theorem rnum_cmp (L : List UInt8) (bad : Bool) : Cmp vbI N7 L bad (rnum L bad).1 (rnum L bad).2.1 (rnum L bad).2.2 ∧ N7 (rnum L bad).1 ∧ (rnum L bad).2.1.length ≤ L.length ∧ ((rnum L bad).2.2 = false → bad = false ∧ (rnum L bad).2.1.length + 1 ≤ L.length) := by
  have comp : Cmp vbI N7 L bad (rnum L bad).1 (rnum L bad).2.1 (rnum L bad).2.2 := by
    intro hb u rest hu hL
    unfold N7 at hu
    obtain ⟨i, h1, h2, h3, h4, h5, h6, h7, -⟩ := vb_back 6 u.toNat (by omega) rest
    rw [show vb u.toNat ++ rest = L from hL.symm] at h2 h3 h4 h5 h6 h7
    have e : rnum L bad = (vval (i + 1) L, L.drop (i + 1), bad) := by unfold rnum; rw [vidx_at 7 i L (by omega) h2 h3 h4]
    rw [e]
    exact ⟨hb, by rw [h6]; omega, h7⟩
  refine ⟨comp, ?_⟩
  cases hv : vidx 7 L with
  | none =>
    have e : rnum L bad = (0, L, true) := by unfold rnum; rw [hv]
    rw [e]; simp [N7]
  | some i =>
    obtain ⟨h1, h2, h3, h4⟩ := vidx_some 7 L i hv
    have e : rnum L bad = (vval (i + 1) L, L.drop (i + 1), bad) := by unfold rnum; rw [hv]
    have hin := vval_in L (i + 1)
    have hp : (128 : Int) ^ (i + 1) ≤ 128 ^ 7 := by
      have : (128 : Nat) ^ (i + 1) ≤ 128 ^ 7 := Nat.pow_le_pow_right (by omega) (by omega)
      exact_mod_cast this
    have h9 : (128 : Int) ^ 7 = 562949953421312 := by decide
    rw [e]
    exact ⟨⟨hin.1, by show vval (i + 1) L < _; omega⟩, by simp, fun q => ⟨q, by simp; omega⟩⟩

structure CuRd (cb : Nat) (L : List UInt8) (bad : Bool) (v : Int) (L' : List UInt8) (bad' : Bool) (w w' : World) : Prop where
  at' : CuAt cb L' bad' w'
  fr : Fr [cb] w w'
  inn : 0 ≤ v ∧ v < 562949953421312
  len : L'.length ≤ L.length
  cmp : Cmp vbI N7 L bad v L' bad'
  con : bad' = false → bad = false ∧ L'.length + 1 ≤ L.length

def NumCu (cb : Nat) (L : List UInt8) (bad : Bool) (w : World) (e : Ending) (w' : World) : Prop := ∃ v L' bad', e = .returned (.int .i64 v) ∧ CuRd cb L bad v L' bad' w w'

set_option maxRecDepth 100000 in
set_option maxHeartbeats 2000000 in
theorem cuNumP (cb : Nat) (L : List UInt8) (bad : Bool) (hl : L.length ≤ 1000) (w : World) (h : CuAt cb L bad w) :
    Calls Tryz.prog 95 #[.pointer (some ⟨cb, 0, none⟩)] w fun e w' => NumCu cb L bad w e w' := by
  have c0 : w.cell? ⟨cb, 0, none⟩ = some (str L) := cell_blk h 0
  have f0 : w.frozen? ⟨cb, 0, none⟩ = false := frozen_blk h 0
  have c1 : w.cell? ⟨cb, 1, none⟩ = some (.bool bad) := cell_blk h 1
  have f1 : w.frozen? ⟨cb, 1, none⟩ = false := frozen_blk h 1
  have H : Hid (w.heap[cb]? = some (.cells #[str L, .bool bad] 160)) := h
  have HC := hide (rnum_cmp L bad)
  clear h
  go_enter Tryz.func95, Tryz.ntmps95
  go_wp2_with fail
  go_loopg [3, 4, 5] 7 (fun gk s3 s4 s5 wr => ∃ i : Nat, s5 = .int .i64 i ∧ i ≤ 7 ∧ gk = 7 - i ∧ s3 = .int .i64 (vval i L) ∧ s4 = .int .i64 ((128 : Int) ^ i) ∧ goesOn i L ∧ wr = w)
  case atStart => exact ⟨0, rfl, by omega, rfl, rfl, rfl, ⟨by omega, by intro j hj; omega⟩, rfl⟩
  case round =>
    obtain ⟨i, rfl, him, hgk, rfl, rfl, hgo, hw⟩ := hrel
    rw [hw]
    clear hw wr
    by_cases hlt : i < L.length ∧ i < 7
    · obtain ⟨hiL, hi7⟩ := hlt
      have hli : (i : Int) < (L.length : Int) := by omega
      have hl7 : (i : Int) < 7 := by omega
      obtain ⟨b, hb⟩ : ∃ b, L[i]? = some b := ⟨L[i], by simp [hiL]⟩
      have hx := fun w => sindex L i b hb w
      have hgd : L.getD i 0 = b := by rw [List.getD_eq_getElem?_getD, hb]; rfl
      have hvi := vval_in L i
      have hbl := b.toNat_lt
      have hvs : vval (i + 1) L = vval i L + ((b.toNat % 128 : Nat) : Int) * 128 ^ i := by rw [vval, hgd]
      have e1 : (b.toNat : Int) % 128 = ((b.toNat % 128 : Nat) : Int) := by omega
      have h1 : (128 : Int) ^ i ≤ 128 ^ 6 := by
        have : (128 : Nat) ^ i ≤ 128 ^ 6 := Nat.pow_le_pow_right (by omega) (by omega)
        exact_mod_cast this
      have h2 : (0 : Int) < 128 ^ i := Int.pow_pos (by omega)
      have h3 : (128 : Int) ^ 6 = 4398046511104 := by decide
      have hps : (128 : Int) ^ (i + 1) = 128 ^ i * 128 := Int.pow_succ _ _
      have h4 : (b.toNat % 128 : Nat) < 128 := Nat.mod_lt _ (by omega)
      have h5 : ((b.toNat % 128 : Nat) : Int) * 128 ^ i ≤ 127 * 128 ^ i := Int.mul_le_mul_of_nonneg_right (by omega) (by omega)
      have h6 : (0 : Int) ≤ ((b.toNat % 128 : Nat) : Int) * 128 ^ i := Int.mul_nonneg (by omega) (by omega)
      have m1 : IntKind.i64.wrap ((b.toNat : Int) % 128 * 128 ^ i) = ((b.toNat % 128 : Nat) : Int) * 128 ^ i := by rw [e1, IntKind.wrap_i64]; omega
      have m2 : IntKind.i64.wrap (vval i L + ((b.toNat % 128 : Nat) : Int) * 128 ^ i) = vval (i + 1) L := by rw [hvs, IntKind.wrap_i64]; omega
      have m3 : IntKind.i64.wrap ((128 : Int) ^ i * 128) = 128 ^ (i + 1) := by rw [hps, IntKind.wrap_i64]; omega
      have hb0 : (0 : Int) ≤ (b.toNat : Int) := by omega
      have hwb : IntKind.i64.wrap (b.toNat : Int) = (b.toNat : Int) := by rw [IntKind.wrap_i64]; omega
      have hdr := fun w => str_drop L (i + 1) (by omega) w
      have ei : ((i + 1 : Nat) : Int) = (i : Int) + 1 := by omega
      rw [ei] at hdr
      have hgo2 : 128 ≤ b.toNat → goesOn (i + 1) L := fun hbb => ⟨by omega, fun j hj => by
        by_cases e : j = i
        · subst e; rw [hgd]; omega
        · exact hgo.2 j (by omega)⟩
      have hvx : b.toNat < 128 → rnum L bad = (vval (i + 1) L, L.drop (i + 1), bad) := fun hbb => by
        unfold rnum
        rw [vidx_at 7 i L (by omega) hiL hgo.2 (by rw [hgd]; exact hbb)]
      have HG := hide hgo2
      have HV := hide hvx
      clear e1 h1 h2 h3 h4 h5 h6 hps hvs hvi hgd hb hgo hgo2 hvx hbl
      have HP : Hid ((128 : Int) ^ (i + 1) = 128 ^ (i + 1)) := hide rfl
      generalize hD : L.drop (i + 1) = D at hdr HV
      generalize hY : ((b.toNat % 128 : Nat) : Int) * 128 ^ i = Y at m1 m2
      clear hY
      have HVV : Hid (vval (i + 1) L = vval (i + 1) L) := hide rfl
      obtain ⟨V2, hV2⟩ : ∃ x, x = vval (i + 1) L := ⟨_, rfl⟩
      obtain ⟨P2, hP2⟩ : ∃ x, x = (128 : Int) ^ (i + 1) := ⟨_, rfl⟩
      rw [← hV2] at m2 HV
      rw [← hP2] at m3
      have HV2 := hide hV2
      have HP2 := hide hP2
      clear hV2 hP2 HP HVV hD
      generalize vval i L = V at m2 ⊢
      generalize (128 : Int) ^ i = P at m1 m3 ⊢
      by_cases hb128 : b.toNat < 128
      · have hbi : (b.toNat : Int) < 128 := by omega
        have HR := hide (HV.out hb128)
        clear hb128 HV HG HP2 HV2
        generalize (b.toNat : Int) = X at hx m1 hb0 hwb hbi
        go_wp2_with fail
        go_ret
        have hc := HC.out
        rw [HR.out] at hc
        refine ⟨V2, D, bad, rfl, ⟨?_, (Fr.refl _ w).setCell (.inl (by simp)) _, hc.2.1, hc.2.2.1, hc.1, hc.2.2.2⟩⟩
        unfold CuAt
        rw [set_blk H.out]; rfl
      · have hbi : ¬ (b.toNat : Int) < 128 := by omega
        have HG2 := hide (HG.out (by omega))
        clear hb128 HV HG
        generalize (b.toNat : Int) = X at hx m1 hb0 hwb hbi
        go_wp2_with fail
        go_roundg (7 - (i + 1))
        case measure => omega
        case rel => exact ⟨i + 1, by go_num, by omega, rfl, by rw [HV2.out], by rw [HP2.out], HG2.out, rfl⟩
    · have hvx : vidx 7 L = none := vidx_none 7 L (fun j hj hl => hgo.2 j (by omega))
      have HR : Hid (rnum L bad = (0, L, true)) := hide (by unfold rnum; rw [hvx])
      clear hvx
      have fin : ∀ w', w' = w.setCell ⟨cb, 1, none⟩ (.bool true) → NumCu cb L bad w (.returned (.int .i64 0)) w' := by
        intro w' hw'
        have hc := HC.out
        rw [HR.out] at hc
        refine ⟨0, L, true, rfl, ⟨?_, hw' ▸ (Fr.refl _ w).setCell (.inl (by simp)) _, hc.2.1, hc.2.2.1, hc.1, hc.2.2.2⟩⟩
        rw [hw']
        unfold CuAt
        rw [set_blk H.out]; rfl
      have FIN := hide fin
      clear fin
      by_cases hiL : (i : Int) < (L.length : Int)
      · have hi7 : ¬ (i : Int) < 7 := by omega
        go_wp2_with fail
        exact bodyPost_ret (v := .int .i64 0) (by simp [results, Tryz.results95, go_sem]) rfl (FIN.out _ rfl)
      · go_wp2_with fail
        exact bodyPost_ret (v := .int .i64 0) (by simp [results, Tryz.results95, go_sem]) rfl (FIN.out _ rfl)

end Go.Proofs.YtachmkhbbbmioaaGreat

namespace Go.Proofs.YtachmkhbbbmioaaGreat
open Go.RowKit Go.Shelf

theorem cmp_snoc {L L1 L2 : List UInt8} {b b1 b2 : Bool} {xs : List Int} {x : Int} (d1 : Cmp vbs (fun u => u.length = xs.length ∧ ∀ y ∈ u, N7 y) L b xs L1 b1) (d2 : Cmp vbI N7 L1 b1 x L2 b2) : Cmp vbs (fun u => u.length = xs.length + 1 ∧ ∀ y ∈ u, N7 y) L b (xs ++ [x]) L2 b2 := by
  intro hb u rest hu hL
  obtain ⟨m, z, rfl⟩ : ∃ m z, u = m ++ [z] := by
    have hne : u ≠ [] := by intro e; rw [e] at hu; simp at hu
    exact ⟨u.dropLast, u.getLast hne, (List.dropLast_concat_getLast hne).symm⟩
  have hml : m.length = xs.length := by have := hu.1; simp at this; omega
  obtain ⟨e1, v1, m1⟩ := d1 hb m (vbI z ++ rest) ⟨hml, fun y hy => hu.2 y (by simp [hy])⟩ (by rw [hL, vbs_append]; simp [vbs, vbI])
  obtain ⟨e2, v2, m2⟩ := d2 e1 z rest (hu.2 z (by simp)) m1
  exact ⟨e2, by rw [v1, v2], m2⟩

/-- What comes of reading a clock. -/
def ClkCu (cb n : Nat) (L : List UInt8) (bad : Bool) (w : World) (e : Ending) (w' : World) : Prop :=
  ∃ xs v L' bad', e = .returned v ∧ RowAt 3 1 v (intRow xs) w' ∧ xs.length = n ∧ (∀ x ∈ xs, N7 x) ∧ CuAt cb L' bad' w' ∧ Fr [cb] w w' ∧ (∀ g, v.ownBlock = some g → w.heap.size ≤ g) ∧ L'.length ≤ L.length ∧ Cmp vbs (fun u => u.length = n ∧ ∀ y ∈ u, N7 y) L bad xs L' bad' ∧ (bad' = false → bad = false)

set_option maxRecDepth 100000 in
set_option maxHeartbeats 4000000 in
theorem cuClkP (cb n : Nat) (h8 : n ≤ 8) (L : List UInt8) (bad : Bool) (hl : L.length ≤ 1000) (w : World) (h : CuAt cb L bad w) :
    Calls Tryz.prog 96 #[.pointer (some ⟨cb, 0, none⟩), .int .i64 n] w fun e w' => ClkCu cb n L bad w e w' := by
  have hclt : cb < w.heap.size := lt_of_heap h
  have hc0 : Hid (Cmp vbs (fun u => u.length = ([] : List Int).length ∧ ∀ y ∈ u, N7 y) L bad [] L bad) := hide (fun e u rest hu hL => ⟨e, (List.eq_nil_of_length_eq_zero hu.1).symm, by rw [List.eq_nil_of_length_eq_zero hu.1] at hL; simpa [vbs] using hL⟩)
  go_enter Tryz.func96, Tryz.ntmps96
  go_wp2_with fail
  go_loopg [5, 6] n (fun gk s5 s6 wr => ∃ (xs : List Int) (L' : List UInt8) (bad' : Bool), s6 = .int .i64 xs.length ∧ xs.length ≤ n ∧ gk = n - xs.length ∧ CuAt cb L' bad' wr ∧ RowAt 3 1 s5 (intRow xs) wr ∧ Fr [cb] w wr ∧ (∀ g, s5.ownBlock = some g → w.heap.size ≤ g) ∧ (∀ x ∈ xs, N7 x) ∧ L'.length ≤ L.length ∧ Hid (Cmp vbs (fun u => u.length = xs.length ∧ ∀ y ∈ u, N7 y) L bad xs L' bad') ∧ Hid (bad' = false → bad = false))
  case atStart => exact ⟨[], L, bad, rfl, by simp, rfl, h, row_nil _ _ _, Fr.refl _ _, by simp [Value.ownBlock], by simp, Nat.le_refl _, hc0, hide (fun q => q)⟩
  case round =>
    clear h hc0
    obtain ⟨xs, L1, bad1, rfl, hil, hgk, hC, hR, hF, hO, hN, hll, hcm, hmo⟩ := hrel
    by_cases hlt : xs.length < n
    · have hli : (xs.length : Int) < (n : Int) := by omega
      have HS := hide (cuNumP cb L1 bad1 (by omega) wr hC)
      have hcb : ∀ g, u5.ownBlock = some g → g ≠ cb := fun g hg => by have := hO g hg; omega
      have HN := hide hN
      clear hN
      generalize hln : xs.length = ln at *
      go_wp2_with fail
      refine HS.out.mono ?_
      rintro e w2 ⟨x, L2, bad2, rfl, hX⟩
      have hF2 := hX.fr
      have hC2 := hX.at'
      have hR2 := hR.kept (w' := w2) (fun g hg => hF2.block g (hR.lt hg) (by simpa using hcb g hg))
      have g3 : w2.grownBy (w2.alloc (.cells #[.int .i64 x] 3)) none := grown_alloc (grown_refl _) _
      have hSr : SrcAt (w2.alloc (.cells #[.int .i64 x] 3)) (.slice (some ⟨w2.heap.size, 0, none⟩) 1 1) (intRow [x]) := src_new w2 [.int .i64 x] _
      have hR3 := hR2.grown g3
      have hFA := (hF.trans hF2).grown g3 (by simp)
      have lr : (intRow xs).length = ln := by rw [intRow_len, hln]
      have l1 : (intRow [x]).length = 1 := rfl
      have HX := hide hX
      clear hX
      go_wp2_with (at_builtin; refine wpList_row Tryz.underlying40 infoInts rfl (by decide) rfl _ _ rfl u5 _ rfl hR3 _ _ rfl hSr (intRow_one _) (intRow_cell _) (by unfold maxLen; omega) (by omega) ?_; intro v5 w5 hR5 hg5 hat)
      go_roundg (n - (ln + 1))
      case measure => omega
      case rel =>
        refine ⟨xs ++ [x], L2, bad2, by rw [List.length_append, hln]; go_num, by simp; omega, by simp; omega, ?_, ?_, hFA.grown hg5 (fun k hk => .inr (hO k hk)), fun g hg => ?_, ?_, Nat.le_trans HX.out.len hll, hide ?_, hide (fun q => hmo.out (HX.out.con q).1)⟩
        · exact (hg5.block cb (by have := g3.size; have := hF2.size; have := hF.size; omega) (fun q => hcb cb q.symm rfl)).trans ((g3.block cb (by have := hF2.size; have := hF.size; omega) (by simp)).trans hC2)
        · have : intRow (xs ++ [x]) = intRow xs ++ intRow [x] := by simp [intRow]
          rw [this]; exact hR5
        · rcases hat with hat | hat
          · exact hO g (hat ▸ hg)
          · rw [hat] at hg; cases hg; exact hFA.size
        · intro y hy
          rcases List.mem_append.1 hy with hy | hy
          · exact HN.out y hy
          · simp at hy; subst hy; exact HX.out.inn
        · have hcm' := hcm.out
          rw [← hln] at hcm'
          have := cmp_snoc hcm' HX.out.cmp
          simpa using this
    · have hxn : xs.length = n := by omega
      rw [hxn] at hcm ⊢
      go_wp2_with fail
      exact bodyPost_ret (v := u5) (by simp [results, Tryz.results96, go_sem]) rfl ⟨xs, u5, L1, bad1, rfl, hR, hxn, hN, hC, hF, hO, hll, hcm.out, hmo.out⟩

/-- What comes of asking whether a clock is within its bounds. -/
def WithinCu (xs : List Int) (w : World) (e : Ending) (w' : World) : Prop := ∃ b, e = .returned (.bool b) ∧ w' = w ∧ (b = true ↔ ∀ x ∈ xs, x ≤ 100)

set_option maxRecDepth 100000 in
set_option maxHeartbeats 1000000 in
theorem withinP (xs : List Int) (hl : xs.length ≤ 1000) (v : Value) (w : World) (hv : RowAt 3 1 v (intRow xs) w) :
    Calls Tryz.prog 97 #[v] w fun e w' => WithinCu xs w e w' := by
  obtain ⟨av, cv, rfl, hcv⟩ := hv.value
  rw [intRow_len] at hv hcv ⊢
  go_enter Tryz.func97, Tryz.ntmps97
  go_wp2_with fail
  go_loopg [3] xs.length (fun g s3 wr => ∃ (i : Nat), s3 = .int .i64 i ∧ i ≤ xs.length ∧ g = xs.length - i ∧ Hid (∀ j x, j < i → xs[j]? = some x → x ≤ 100) ∧ wr = w)
  case atStart => exact ⟨0, rfl, by omega, rfl, hide (by intro j x hj; omega), rfl⟩
  case round =>
    obtain ⟨i, rfl, hil, hgk, hso, hw⟩ := hrel
    rw [hw]
    clear hw wr
    by_cases hlt : i < xs.length
    · have hli : (i : Int) < (xs.length : Int) := by omega
      obtain ⟨x, hx⟩ : ∃ x, xs[i]? = some x := ⟨xs[i], by simp [hlt]⟩
      obtain ⟨g1, c1, cur1, hv1, -, hb1, hx1⟩ := hv.cell (i := i) (intRow_at hx)
      rw [intRow_len] at hv1
      cases hv1
      have k1 : w.cell? ⟨g1, i, none⟩ = some (.int .i64 x) := (cell_blk hb1 _).trans (by simpa using hx1 0 _ rfl)
      have HX := hide hx
      clear hx1 hx
      by_cases hxb : (100 : Int) < x
      · go_wp2_with fail
        exact bodyPost_ret (v := .bool false) (by simp [results, Tryz.results97, go_sem]) rfl ⟨false, rfl, rfl, by simp; exact ⟨x, List.mem_of_getElem? HX.out, by omega⟩⟩
      · go_wp2_with fail
        go_roundg (xs.length - (i + 1))
        case measure => omega
        case rel =>
          refine ⟨i + 1, by go_num, by omega, rfl, hide ?_, rfl⟩
          intro j y hj hy
          by_cases e : j = i
          · subst e; rw [HX.out] at hy; cases hy; omega
          · exact hso.out j y (by omega) hy
    · go_wp2_with fail
      exact bodyPost_ret (v := .bool true) (by simp [results, Tryz.results97, go_sem]) rfl ⟨true, rfl, rfl, by
        simp
        intro x hx
        obtain ⟨j, hj⟩ := List.mem_iff_getElem?.1 hx
        exact hso.out j x (by have := (List.getElem?_eq_some_iff.1 hj).1; omega) hj⟩

end Go.Proofs.YtachmkhbbbmioaaGreat
