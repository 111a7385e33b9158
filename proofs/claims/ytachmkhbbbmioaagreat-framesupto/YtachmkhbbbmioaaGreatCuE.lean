import Derived.Test.YtachmkhbbbmioaaGreatCuDX
import Derived.Test.YtachmkhbbbmioaaGreatRdG
import Derived.Test.YtachmkhbbbmioaaGreatFrRX
namespace Go.Proofs.YtachmkhbbbmioaaGreat
open Go.RowKit Go.Shelf

/-- Operations in a list of the document's, all in memory from a place on. -/
def OpsNew (n : Nat) (v : Value) (l : List OpR) (base : Nat) (w : World) : Prop :=
  ∃ rows, RowAt 88 8 v rows w ∧ rows.length = l.length ∧ (∀ g, v.ownBlock = some g → base ≤ g) ∧ ∀ (j : Nat) (x : OpR), l[j]? = some x → ∃ vk, rows[j]? = some (opCells x vk) ∧ RowAt 3 1 vk (intRow (clk n x.q)) w ∧ ∀ g, vk.ownBlock = some g → base ≤ g

/-- What comes of reading anything, by the document. -/
def RReadCu (n : Nat) (D : List UInt8) (w : World) (e : Ending) (w' : World) : Prop :=
  w.grownBy w' none ∧ ((∃ fv, e = .returned (.tuple #[fv, .bool false]) ∧ NoFr n D ∧ ∃ a b1 n1 c1 b2 n2 c2, fv = .agg #[.int .i64 a, .slice b1 n1 c1, .slice b2 n2 c2]) ∨
   (∃ s q vk, dOk n (s, q) ∧ D.length ≤ 120 ∧ D = sealB (68 :: dEnc n (s, q)) ∧ RowAt 3 1 vk (intRow (clk n q)) w' ∧ (∀ g, vk.ownBlock = some g → w.heap.size ≤ g) ∧ e = .returned (.tuple #[.agg #[.int .i64 s, vk, .slice none 0 0], .bool true])) ∨
   ∃ l vo, bOk n l ∧ D.length ≤ 120 ∧ D = sealB (66 :: bEnc n l) ∧ OpsNew n vo l w.heap.size w' ∧ e = .returned (.tuple #[.agg #[.int .i64 0, .slice none 0 0, vo], .bool true]))

theorem mid_seal (k : UInt8) (X : List UInt8) : ((sealB (k :: X)).drop 1).take ((sealB (k :: X)).length - 5) = X := by
  rw [seal_len]
  unfold sealB
  simp only [List.cons_append, List.drop_succ_cons, List.drop_zero]
  rw [show (k :: X).length + 4 - 5 = X.length from by simp, List.take_left]

theorem vbI_pos (x : Int) : 0 < (vbI x).length := vb_pos x.toNat

theorem noFr_short {n : Nat} {D : List UInt8} (h : ¬ (D.length ≤ 120 ∧ 6 ≤ D.length)) : NoFr n D := by
  refine ⟨fun d hd hl e => ?_, fun l hb hl e => ?_⟩
  · have hl2 := congrArg List.length e
    have := vbI_pos d.1
    rw [seal_len] at hl2
    simp [dEnc] at hl2
    omega
  · have hl2 := congrArg List.length e
    have := vbI_pos (l.length : Int)
    rw [seal_len] at hl2
    simp [bEnc] at hl2
    omega

theorem noFr_mid {n : Nat} {D L0 : List UInt8} {hd : UInt8} (h0 : D[0]? = some hd) (hm : (D.drop 1).take (D.length - 5) = L0) (h1 : ∀ d, dOk n d → hd = 68 → L0 ≠ dEnc n d) (h2 : ∀ l, bOk n l → hd = 66 → L0 ≠ bEnc n l) : NoFr n D := by
  refine ⟨fun d hd hl e => ?_, fun l hb hl e => ?_⟩
  · rw [e] at h0 hm
    rw [mid_seal] at hm
    exact h1 d hd (by simpa [sealB] using h0.symm) hm.symm
  · rw [e] at h0 hm
    rw [mid_seal] at hm
    exact h2 l hb (by simpa [sealB] using h0.symm) hm.symm

set_option maxRecDepth 100000 in
set_option maxHeartbeats 2000000 in
theorem readRshort (n : Nat) (D : List UInt8) (h : ¬ (D.length ≤ 120 ∧ 6 ≤ D.length)) (w : World) :
    Calls Tryz.prog 69 #[str D, .int .i64 n] w fun e w' => RReadCu n D w e w' := by
  have HN := hide (noFr_short (n := n) h)
  by_cases h1 : (120 : Int) < (D.length : Int)
  · clear h
    go_enter Tryz.func69, Tryz.ntmps69
    go_upto_region 2 with fail
    have g1 : w.grownBy ((w.alloc (.cells #[.int .i64 0, .slice none 0 0, .slice none 0 0] 84)).alloc (.cells #[.int .i64 0, .slice none 0 0, .slice none 0 0] 84)) none := grown_alloc (grown_alloc (grown_refl _) _) _
    have kR : ((w.alloc (.cells #[.int .i64 0, .slice none 0 0, .slice none 0 0] 84)).alloc (.cells #[.int .i64 0, .slice none 0 0, .slice none 0 0] 84)).heap[w.heap.size]? = some (.cells #[.int .i64 0, .slice none 0 0, .slice none 0 0] 84) := by simp only [heap_alloc_at, World.size_alloc]; simp
    have kF : ((w.alloc (.cells #[.int .i64 0, .slice none 0 0, .slice none 0 0] 84)).alloc (.cells #[.int .i64 0, .slice none 0 0, .slice none 0 0] 84)).heap[w.heap.size + 1]? = some (.cells #[.int .i64 0, .slice none 0 0, .slice none 0 0] 84) := by simp only [heap_alloc_at, World.size_alloc]; simp
    generalize ((w.alloc (.cells #[.int .i64 0, .slice none 0 0, .slice none 0 0] 84)).alloc (.cells #[.int .i64 0, .slice none 0 0, .slice none 0 0] 84)) = w1 at g1 kR kF ⊢
    obtain ⟨b4, hb4⟩ : ∃ b, w.heap.size = b := ⟨_, rfl⟩
    rw [hb4] at kR kF ⊢
    have c0 : w1.cell? ⟨b4 + 1, 0, none⟩ = some (.int .i64 0) := cell_blk kF 0
    have d0 : w1.cell? ⟨b4, 0, none⟩ = some (.int .i64 0) := cell_blk kR 0
    have f0 : w1.frozen? ⟨b4, 0, none⟩ = false := frozen_blk kR 0
    have c1 : w1.cell? ⟨b4 + 1, 1, none⟩ = some (.slice none 0 0) := cell_blk kF 1
    have d1 : w1.cell? ⟨b4, 1, none⟩ = some (.slice none 0 0) := cell_blk kR 1
    have f1 : w1.frozen? ⟨b4, 1, none⟩ = false := frozen_blk kR 1
    have c2 : w1.cell? ⟨b4 + 1, 2, none⟩ = some (.slice none 0 0) := cell_blk kF 2
    have d2 : w1.cell? ⟨b4, 2, none⟩ = some (.slice none 0 0) := cell_blk kR 2
    have f2 : w1.frozen? ⟨b4, 2, none⟩ = false := frozen_blk kR 2
    go_wp2_with fail
    have hF8 : Fr [] w (((w1.setCell ⟨b4, 0, none⟩ (.int .i64 0)).setCell ⟨b4, 1, none⟩ (.slice none 0 0)).setCell ⟨b4, 2, none⟩ (.slice none 0 0)) := by
      iterate 3 refine Fr.setCell ?_ (.inr (by simp; omega)) _
      exact Fr.ofGrown g1
    have k8 : (((w1.setCell ⟨b4, 0, none⟩ (.int .i64 0)).setCell ⟨b4, 1, none⟩ (.slice none 0 0)).setCell ⟨b4, 2, none⟩ (.slice none 0 0)).heap[b4]? = some (.cells #[.int .i64 0, .slice none 0 0, .slice none 0 0] 84) := set3_blk kR
    generalize (((w1.setCell ⟨b4, 0, none⟩ (.int .i64 0)).setCell ⟨b4, 1, none⟩ (.slice none 0 0)).setCell ⟨b4, 2, none⟩ (.slice none 0 0)) = w8 at hF8 k8 ⊢
    clear c0 c1 c2 d0 d1 d2 f0 f1 f2
    have e0 : w8.cell? ⟨b4, 0, none⟩ = some (.int .i64 0) := cell_blk k8 0
    have e1 : w8.cell? ⟨b4, 1, none⟩ = some (.slice none 0 0) := cell_blk k8 1
    have e2 : w8.cell? ⟨b4, 2, none⟩ = some (.slice none 0 0) := cell_blk k8 2
    exact bodyPost_ret (v := .tuple #[.agg #[.int .i64 0, .slice none 0 0, .slice none 0 0], .bool false]) (by simp [results, Tryz.results69, go_sem, e0, e1, e2]) rfl ⟨hF8.toGrown, .inl ⟨_, rfl, HN.out, _, _, _, _, _, _, _, rfl⟩⟩
  · have h2 : (D.length : Int) < 6 := by omega
    clear h
    go_enter Tryz.func69, Tryz.ntmps69
    go_upto_region 2 with fail
    have g1 : w.grownBy ((w.alloc (.cells #[.int .i64 0, .slice none 0 0, .slice none 0 0] 84)).alloc (.cells #[.int .i64 0, .slice none 0 0, .slice none 0 0] 84)) none := grown_alloc (grown_alloc (grown_refl _) _) _
    have kR : ((w.alloc (.cells #[.int .i64 0, .slice none 0 0, .slice none 0 0] 84)).alloc (.cells #[.int .i64 0, .slice none 0 0, .slice none 0 0] 84)).heap[w.heap.size]? = some (.cells #[.int .i64 0, .slice none 0 0, .slice none 0 0] 84) := by simp only [heap_alloc_at, World.size_alloc]; simp
    have kF : ((w.alloc (.cells #[.int .i64 0, .slice none 0 0, .slice none 0 0] 84)).alloc (.cells #[.int .i64 0, .slice none 0 0, .slice none 0 0] 84)).heap[w.heap.size + 1]? = some (.cells #[.int .i64 0, .slice none 0 0, .slice none 0 0] 84) := by simp only [heap_alloc_at, World.size_alloc]; simp
    generalize ((w.alloc (.cells #[.int .i64 0, .slice none 0 0, .slice none 0 0] 84)).alloc (.cells #[.int .i64 0, .slice none 0 0, .slice none 0 0] 84)) = w1 at g1 kR kF ⊢
    obtain ⟨b4, hb4⟩ : ∃ b, w.heap.size = b := ⟨_, rfl⟩
    rw [hb4] at kR kF ⊢
    have c0 : w1.cell? ⟨b4 + 1, 0, none⟩ = some (.int .i64 0) := cell_blk kF 0
    have d0 : w1.cell? ⟨b4, 0, none⟩ = some (.int .i64 0) := cell_blk kR 0
    have f0 : w1.frozen? ⟨b4, 0, none⟩ = false := frozen_blk kR 0
    have c1 : w1.cell? ⟨b4 + 1, 1, none⟩ = some (.slice none 0 0) := cell_blk kF 1
    have d1 : w1.cell? ⟨b4, 1, none⟩ = some (.slice none 0 0) := cell_blk kR 1
    have f1 : w1.frozen? ⟨b4, 1, none⟩ = false := frozen_blk kR 1
    have c2 : w1.cell? ⟨b4 + 1, 2, none⟩ = some (.slice none 0 0) := cell_blk kF 2
    have d2 : w1.cell? ⟨b4, 2, none⟩ = some (.slice none 0 0) := cell_blk kR 2
    have f2 : w1.frozen? ⟨b4, 2, none⟩ = false := frozen_blk kR 2
    go_wp2_with fail
    have hF8 : Fr [] w (((w1.setCell ⟨b4, 0, none⟩ (.int .i64 0)).setCell ⟨b4, 1, none⟩ (.slice none 0 0)).setCell ⟨b4, 2, none⟩ (.slice none 0 0)) := by
      iterate 3 refine Fr.setCell ?_ (.inr (by simp; omega)) _
      exact Fr.ofGrown g1
    have k8 : (((w1.setCell ⟨b4, 0, none⟩ (.int .i64 0)).setCell ⟨b4, 1, none⟩ (.slice none 0 0)).setCell ⟨b4, 2, none⟩ (.slice none 0 0)).heap[b4]? = some (.cells #[.int .i64 0, .slice none 0 0, .slice none 0 0] 84) := set3_blk kR
    generalize (((w1.setCell ⟨b4, 0, none⟩ (.int .i64 0)).setCell ⟨b4, 1, none⟩ (.slice none 0 0)).setCell ⟨b4, 2, none⟩ (.slice none 0 0)) = w8 at hF8 k8 ⊢
    clear c0 c1 c2 d0 d1 d2 f0 f1 f2
    have e0 : w8.cell? ⟨b4, 0, none⟩ = some (.int .i64 0) := cell_blk k8 0
    have e1 : w8.cell? ⟨b4, 1, none⟩ = some (.slice none 0 0) := cell_blk k8 1
    have e2 : w8.cell? ⟨b4, 2, none⟩ = some (.slice none 0 0) := cell_blk k8 2
    exact bodyPost_ret (v := .tuple #[.agg #[.int .i64 0, .slice none 0 0, .slice none 0 0], .bool false]) (by simp [results, Tryz.results69, go_sem, e0, e1, e2]) rfl ⟨hF8.toGrown, .inl ⟨_, rfl, HN.out, _, _, _, _, _, _, _, rfl⟩⟩

set_option maxRecDepth 100000 in
set_option maxHeartbeats 4000000 in
theorem readRother (n : Nat) (h8 : n ≤ 8) (D L0 : List UInt8) (hd : UInt8) (ml : Nat) (hml : D.length = ml + 4) (h120 : D.length ≤ 120) (h6 : 6 ≤ D.length) (h0 : D[0]? = some hd) (hm : (D.drop 1).take (D.length - 5) = L0) (hne : hd ≠ 68) (hne2 : hd ≠ 66) (w : World) :
    Calls Tryz.prog 69 #[str D, .int .i64 n] w fun e w' => RReadCu n D w e w' := by
  have HN := hide (noFr_mid (n := n) h0 hm (fun d _ e => absurd e hne) (fun l _ e => absurd e hne2))
  have hx1 : ((hd.toNat : Int) == 68) = false := by
    rw [beq_eq_false_iff_ne]
    intro e
    exact hne (UInt8.toNat_inj.1 (by have : (68 : UInt8).toNat = 68 := rfl; omega))
  have hx2 : ((hd.toNat : Int) == 66) = false := by
    rw [beq_eq_false_iff_ne]
    intro e
    exact hne2 (UInt8.toNat_inj.1 (by have : (66 : UInt8).toNat = 66 := rfl; omega))
  have hEB : (batch n [] == D) = false := by
    rw [beq_eq_false_iff_ne]
    intro e
    rw [← e] at h0
    exact hne2 (by simpa [batch, sealB] using h0.symm)
  have hcut : ∀ w, (Instr.slice 9 (str D) (some (.int .i64 1)) (some (.int .i64 (ml : Int))) none).run Tryz.prog w = .ok (str L0) w := fun w => by
    have := str_mid D 1 ml (by omega) (by omega) w
    rw [show (.int .i64 (1 : Int) : Value) = .int .i64 ((1 : Nat) : Int) from rfl, this, ← hm, show D.length - 5 = ml - 1 from by omega]
  have hD1 : (D.length : Int) = (ml : Int) + 4 := by omega
  have hw1 : IntKind.i64.wrap ((ml : Int) + 4 - 4) = (ml : Int) := by rw [IntKind.wrap_i64]; omega
  have hd1 : ¬ (120 : Int) < (ml : Int) + 4 := by omega
  have hd2 : ¬ ((ml : Int) + 4) < 6 := by omega
  have hL0 : L0.length ≤ 115 := by rw [← hm]; simp; omega
  have hix : ∀ w, (Instr.index 9 (str D) (.int .i64 0)).run Tryz.prog w = .ok (.int .u8 (hd.toNat : Int)) w := fun w => sindex D 0 hd h0 w
  go_enter Tryz.func69, Tryz.ntmps69
  go_upto_region 5 with fail
  have g1 : w.grownBy (((w.alloc (.cells #[.int .i64 0, .slice none 0 0, .slice none 0 0] 84)).alloc (.cells #[.int .i64 0, .slice none 0 0, .slice none 0 0] 84)).alloc (.cells #[str L0, .bool false] 160)) none := grown_alloc (grown_alloc (grown_alloc (grown_refl _) _) _) _
  have kR : (((w.alloc (.cells #[.int .i64 0, .slice none 0 0, .slice none 0 0] 84)).alloc (.cells #[.int .i64 0, .slice none 0 0, .slice none 0 0] 84)).alloc (.cells #[str L0, .bool false] 160)).heap[w.heap.size]? = some (.cells #[.int .i64 0, .slice none 0 0, .slice none 0 0] 84) := by simp only [heap_alloc_at, World.size_alloc]; simp; omega
  have kF : (((w.alloc (.cells #[.int .i64 0, .slice none 0 0, .slice none 0 0] 84)).alloc (.cells #[.int .i64 0, .slice none 0 0, .slice none 0 0] 84)).alloc (.cells #[str L0, .bool false] 160)).heap[w.heap.size + 1]? = some (.cells #[.int .i64 0, .slice none 0 0, .slice none 0 0] 84) := by simp only [heap_alloc_at, World.size_alloc]; simp
  have kC : (((w.alloc (.cells #[.int .i64 0, .slice none 0 0, .slice none 0 0] 84)).alloc (.cells #[.int .i64 0, .slice none 0 0, .slice none 0 0] 84)).alloc (.cells #[str L0, .bool false] 160)).heap[w.heap.size + 1 + 1]? = some (.cells #[str L0, .bool false] 160) := by simp only [heap_alloc_at, World.size_alloc]; simp
  generalize (((w.alloc (.cells #[.int .i64 0, .slice none 0 0, .slice none 0 0] 84)).alloc (.cells #[.int .i64 0, .slice none 0 0, .slice none 0 0] 84)).alloc (.cells #[str L0, .bool false] 160)) = w1 at g1 kR kF kC ⊢
  obtain ⟨b4, hb4⟩ : ∃ b, w.heap.size = b := ⟨_, rfl⟩
  rw [hb4] at kR kF kC ⊢
  have n1 : b4 + 1 ≠ b4 := by omega
  have n2 : b4 + 1 + 1 ≠ b4 := by omega
  have hFD : Fr [] w w1 := Fr.ofGrown g1
  have HW : Hid (Calls Tryz.prog 42 #[.agg #[.int .i64 0, .slice none 0 0, .slice none 0 0]] w1.drew fun e w' => e = .returned (str (batch n [])) ∧ w1.drew.grownBy w' none) := hide (writeBatR n h8 [] (by simp) (by simp) (.slice none 0 0) (.slice none 0 0) w1.drew ⟨[], row_nil _ _ _, rfl, by simp⟩)
  generalize batch n [] = M at HW hEB
  generalize (hd.toNat : Int) = x at hix hx1 hx2
  have c0 : w1.cell? ⟨b4 + 1, 0, none⟩ = some (.int .i64 0) := cell_blk kF 0
  have c1 : w1.cell? ⟨b4 + 1, 1, none⟩ = some (.slice none 0 0) := cell_blk kF 1
  have c2 : w1.cell? ⟨b4 + 1, 2, none⟩ = some (.slice none 0 0) := cell_blk kF 2
  have cc : w1.cell? ⟨b4 + 1 + 1, 1, none⟩ = some (.bool false) := cell_blk kC 1
  go_wp2_with fail
  go_region_held3 (fun w' => w'.cell? ⟨b4 + 1, 0, none⟩ = some (.int .i64 0) ∧ w'.cell? ⟨b4 + 1, 1, none⟩ = some (.slice none 0 0) ∧ w'.cell? ⟨b4 + 1, 2, none⟩ = some (.slice none 0 0) ∧ w'.cell? ⟨b4 + 1 + 1, 1, none⟩ = some (.bool false))
    (first | exact ⟨by rw [set3 n1]; exact ck _ _ c0, by rw [set3 n1]; exact ck _ _ c1, by rw [set3 n1]; exact ck _ _ c2, by rw [set3 n2]; exact ck _ _ cc⟩ | exact ⟨by with_reducible exact ck _ _ c0, ck _ _ c1, ck _ _ c2, ck _ _ cc⟩ | go_keep)
    (first | (go_at_call 42; refine HW.out.mono ?_; rintro e w7 ⟨rfl, hg⟩; have ck : ∀ (a : Addr) (x : Value), w1.cell? a = some x → w7.cell? a = some x := (fun a x hx => cell_of_grown hx (grown_trans (grown_drew (grown_refl w1)) hg)); have kR7 : w7.heap[b4]? = some (.cells #[.int .i64 0, .slice none 0 0, .slice none 0 0] 84) := (hg.block b4 (lt_of_heap kR) (by simp)).trans kR; have r0 : w7.cell? ⟨b4, 0, none⟩ = some (.int .i64 0) := cell_blk kR7 0; have r1 : w7.cell? ⟨b4, 1, none⟩ = some (.slice none 0 0) := cell_blk kR7 1; have r2 : w7.cell? ⟨b4, 2, none⟩ = some (.slice none 0 0) := cell_blk kR7 2; have z0 : w7.frozen? ⟨b4, 0, none⟩ = false := frozen_blk kR7 0; have z1 : w7.frozen? ⟨b4, 1, none⟩ = false := frozen_blk kR7 1; have z2 : w7.frozen? ⟨b4, 2, none⟩ = false := frozen_blk kR7 2))
  all_goals
    go_wp2_with fail
    have hF8 : Fr [] w (((w7.setCell ⟨b4, 0, none⟩ (.int .i64 0)).setCell ⟨b4, 1, none⟩ (.slice none 0 0)).setCell ⟨b4, 2, none⟩ (.slice none 0 0)) := by
      iterate 3 refine Fr.setCell ?_ (.inr (by simp; omega)) _
      exact (hFD.drew).grown hg (by simp)
    have k8 : (((w7.setCell ⟨b4, 0, none⟩ (.int .i64 0)).setCell ⟨b4, 1, none⟩ (.slice none 0 0)).setCell ⟨b4, 2, none⟩ (.slice none 0 0)).heap[b4]? = some (.cells #[.int .i64 0, .slice none 0 0, .slice none 0 0] 84) := set3_blk kR7
    generalize (((w7.setCell ⟨b4, 0, none⟩ (.int .i64 0)).setCell ⟨b4, 1, none⟩ (.slice none 0 0)).setCell ⟨b4, 2, none⟩ (.slice none 0 0)) = w8 at hF8 k8 ⊢
    clear r0 r1 r2 z0 z1 z2
    have e0 : w8.cell? ⟨b4, 0, none⟩ = some (.int .i64 0) := cell_blk k8 0
    have e1 : w8.cell? ⟨b4, 1, none⟩ = some (.slice none 0 0) := cell_blk k8 1
    have e2 : w8.cell? ⟨b4, 2, none⟩ = some (.slice none 0 0) := cell_blk k8 2
    exact bodyPost_ret (v := .tuple #[.agg #[.int .i64 0, .slice none 0 0, .slice none 0 0], .bool false]) (by simp [results, Tryz.results69, go_sem, e0, e1, e2]) rfl ⟨hF8.toGrown, .inl ⟨_, rfl, HN.out, _, _, _, _, _, _, _, rfl⟩⟩

set_option maxRecDepth 100000 in
set_option maxHeartbeats 4000000 in
theorem readRdig (n : Nat) (h8 : n ≤ 8) (D L0 : List UInt8) (ml : Nat) (hml : D.length = ml + 4) (h120 : D.length ≤ 120) (h6 : 6 ≤ D.length) (h0 : D[0]? = some 68) (hm : (D.drop 1).take (D.length - 5) = L0) (w : World) :
    Calls Tryz.prog 69 #[str D, .int .i64 n] w fun e w' => RReadCu n D w e w' := by
  have hcut : ∀ w, (Instr.slice 9 (str D) (some (.int .i64 1)) (some (.int .i64 (ml : Int))) none).run Tryz.prog w = .ok (str L0) w := fun w => by
    have := str_mid D 1 ml (by omega) (by omega) w
    rw [show (.int .i64 (1 : Int) : Value) = .int .i64 ((1 : Nat) : Int) from rfl, this, ← hm, show D.length - 5 = ml - 1 from by omega]
  have hD1 : (D.length : Int) = (ml : Int) + 4 := by omega
  have hw1 : IntKind.i64.wrap ((ml : Int) + 4 - 4) = (ml : Int) := by rw [IntKind.wrap_i64]; omega
  have hd1 : ¬ (120 : Int) < (ml : Int) + 4 := by omega
  have hd2 : ¬ ((ml : Int) + 4) < 6 := by omega
  have hL0 : L0.length ≤ 115 := by rw [← hm]; simp; omega
  have hix : ∀ w, (Instr.index 9 (str D) (.int .i64 0)).run Tryz.prog w = .ok (.int .u8 68) w := fun w => sindex D 0 68 h0 w
  go_enter Tryz.func69, Tryz.ntmps69
  go_upto_region 5 with fail
  have g1 : w.grownBy (((w.alloc (.cells #[.int .i64 0, .slice none 0 0, .slice none 0 0] 84)).alloc (.cells #[.int .i64 0, .slice none 0 0, .slice none 0 0] 84)).alloc (.cells #[str L0, .bool false] 160)) none := grown_alloc (grown_alloc (grown_alloc (grown_refl _) _) _) _
  have kR : (((w.alloc (.cells #[.int .i64 0, .slice none 0 0, .slice none 0 0] 84)).alloc (.cells #[.int .i64 0, .slice none 0 0, .slice none 0 0] 84)).alloc (.cells #[str L0, .bool false] 160)).heap[w.heap.size]? = some (.cells #[.int .i64 0, .slice none 0 0, .slice none 0 0] 84) := by simp only [heap_alloc_at, World.size_alloc]; simp; omega
  have kF : (((w.alloc (.cells #[.int .i64 0, .slice none 0 0, .slice none 0 0] 84)).alloc (.cells #[.int .i64 0, .slice none 0 0, .slice none 0 0] 84)).alloc (.cells #[str L0, .bool false] 160)).heap[w.heap.size + 1]? = some (.cells #[.int .i64 0, .slice none 0 0, .slice none 0 0] 84) := by simp only [heap_alloc_at, World.size_alloc]; simp
  have kC : (((w.alloc (.cells #[.int .i64 0, .slice none 0 0, .slice none 0 0] 84)).alloc (.cells #[.int .i64 0, .slice none 0 0, .slice none 0 0] 84)).alloc (.cells #[str L0, .bool false] 160)).heap[w.heap.size + 1 + 1]? = some (.cells #[str L0, .bool false] 160) := by simp only [heap_alloc_at, World.size_alloc]; simp
  generalize (((w.alloc (.cells #[.int .i64 0, .slice none 0 0, .slice none 0 0] 84)).alloc (.cells #[.int .i64 0, .slice none 0 0, .slice none 0 0] 84)).alloc (.cells #[str L0, .bool false] 160)) = w1 at g1 kR kF kC ⊢
  obtain ⟨b4, hb4⟩ : ∃ b, w.heap.size = b := ⟨_, rfl⟩
  rw [hb4] at kR kF kC ⊢
  have n1 : b4 + 1 ≠ b4 := by omega
  have n2 : b4 + 1 + 1 ≠ b4 := by omega
  have H1 := hide (cuNumP (b4 + 1 + 1) L0 false (by omega) w1 kC)
  go_wp2_with fail
  refine H1.out.mono ?_
  rintro e w2 ⟨s, L1, bad1, rfl, hX⟩
  have kR2 := hX.fr.blk kR (by simp; omega)
  have kF2 := hX.fr.blk kF (by simp)
  have hC2 := hX.at'
  have hFA : Fr [] w w2 := (Fr.ofGrown g1).after hX.fr (fun x hx => .inr (by simp at hx; omega))
  have d0 : w2.cell? ⟨b4 + 1, 0, none⟩ = some (.int .i64 0) := cell_blk kF2 0
  have f0 : w2.frozen? ⟨b4 + 1, 0, none⟩ = false := frozen_blk kF2 0
  have hl1 := hX.len
  have CM1 := hide hX.cmp
  clear H1 kR kF kC g1 hX
  go_upto_region 8 with fail
  have kR3 : (w2.setCell ⟨b4 + 1, 0, none⟩ (.int .i64 s)).heap[b4]? = some (.cells #[.int .i64 0, .slice none 0 0, .slice none 0 0] 84) := by rw [Below.heap_setCell _ _ _ _ (by simp)]; exact kR2
  have kF3 : (w2.setCell ⟨b4 + 1, 0, none⟩ (.int .i64 s)).heap[b4 + 1]? = some (.cells #[.int .i64 s, .slice none 0 0, .slice none 0 0] 84) := by rw [set_blk kF2]; rfl
  have kC3 : CuAt (b4 + 1 + 1) L1 bad1 (w2.setCell ⟨b4 + 1, 0, none⟩ (.int .i64 s)) := by unfold CuAt at hC2 ⊢; rw [Below.heap_setCell _ _ _ _ (by simp)]; exact hC2
  have hFB : Fr [] w (w2.setCell ⟨b4 + 1, 0, none⟩ (.int .i64 s)) := hFA.setCell (.inr (by simp; omega)) _
  generalize (w2.setCell ⟨b4 + 1, 0, none⟩ (.int .i64 s)) = w3 at kR3 kF3 kC3 hFB ⊢
  clear d0 f0 kR2 kF2 hC2 hFA
  have H2 := hide (cuClkP (b4 + 1 + 1) n h8 L1 bad1 (by omega) w3 kC3)
  go_wp2_with fail
  refine H2.out.mono ?_
  rintro e w4 ⟨xs, vq, L2, bad2, rfl, hR4, hxl, hxn, hC4, hF4, hO4, -, hcm, -⟩
  have CM2 := hide hcm
  have HXN := hide hxn
  have kR4 := hF4.blk kR3 (by simp; omega)
  have kF4 := hF4.blk kF3 (by simp)
  have hFC : Fr [] w w4 := hFB.after hF4 (fun x hx => .inr (by simp at hx; omega))
  have d1 : w4.cell? ⟨b4 + 1, 1, none⟩ = some (.slice none 0 0) := cell_blk kF4 1
  have f1 : w4.frozen? ⟨b4 + 1, 1, none⟩ = false := frozen_blk kF4 1
  have hb3 : b4 + 1 < w3.heap.size := lt_of_heap kF3
  clear H2 kR3 kF3 kC3 hFB hF4 hcm hxn
  obtain ⟨aq, cq, rfl, -⟩ := hR4.value
  rw [intRow_len, hxl] at hR4 hO4 ⊢
  go_upto_region 9 with fail
  have kR : (w4.setCell ⟨b4 + 1, 1, none⟩ (.slice aq n cq)).heap[b4]? = some (.cells #[.int .i64 0, .slice none 0 0, .slice none 0 0] 84) := by rw [Below.heap_setCell _ _ _ _ (by simp)]; exact kR4
  have kF : (w4.setCell ⟨b4 + 1, 1, none⟩ (.slice aq n cq)).heap[b4 + 1]? = some (.cells #[.int .i64 s, .slice aq n cq, .slice none 0 0] 84) := by rw [set_blk kF4]; rfl
  have kC : CuAt (b4 + 1 + 1) L2 bad2 (w4.setCell ⟨b4 + 1, 1, none⟩ (.slice aq n cq)) := by unfold CuAt at hC4 ⊢; rw [Below.heap_setCell _ _ _ _ (by simp)]; exact hC4
  have hR5 : RowAt 3 1 (.slice aq n cq) (intRow xs) (w4.setCell ⟨b4 + 1, 1, none⟩ (.slice aq n cq)) := hR4.kept (fun g hg => Below.heap_setCell _ _ _ _ (by have := hO4 g hg; simp; omega))
  have hFD : Fr [] w (w4.setCell ⟨b4 + 1, 1, none⟩ (.slice aq n cq)) := hFC.setCell (.inr (by simp; omega)) _
  have hfresh : ∀ g, (Value.slice aq n cq).ownBlock = some g → b4 ≤ g := fun g hg => by have := hO4 g hg; omega
  generalize (w4.setCell ⟨b4 + 1, 1, none⟩ (.slice aq n cq)) = w5 at kR kF kC hR5 hFD ⊢
  clear d1 f1 kR4 kF4 hC4 hFC hR4 hO4 hb3
  have HK : Hid (∀ d, dOk n d → L0 = dEnc n d → bad2 = false ∧ s = d.1 ∧ xs = clk n d.2) := hide (fun d hd e => by
    obtain ⟨e1, v1, m1⟩ := CM1.out rfl d.1 (cEnc n d.2) ⟨by have := hd.1.1; omega, by have := hd.1.2; omega⟩ e
    obtain ⟨e2, v2, -⟩ := CM2.out e1 (clk n d.2) [] ⟨clk_len n d.2, fun y hy => by obtain ⟨i, hi, rfl⟩ := clk_mem hy; have := hd.2.1 i hi; exact ⟨by omega, by omega⟩⟩ (by rw [m1]; simp [cEnc])
    exact ⟨e2, v1, v2⟩)
  have HQ : Hid ((∀ x ∈ xs, x ≤ 100) → ∀ i, i < n → 0 ≤ qOf xs i ∧ qOf xs i ≤ 100) := hide (fun hx i hi => by
    have hm : qOf xs i ∈ xs := by
      unfold qOf
      rw [List.getD_eq_getElem?_getD, List.getElem?_eq_getElem (by omega)]
      exact List.getElem_mem _
    exact ⟨(HXN.out _ hm).1, hx _ hm⟩)
  have c1' : w5.cell? ⟨b4 + 1, 1, none⟩ = some (.slice aq n cq) := cell_blk kF 1
  have c0' : w5.cell? ⟨b4 + 1, 0, none⟩ = some (.int .i64 s) := cell_blk kF 0
  have HWi := hide (withinP xs (by omega) _ w5 hR5)
  go_wp2_with fail
  refine HWi.out.mono ?_
  rintro e w6 ⟨inb, rfl, hw6, hin⟩
  rw [hw6]
  have HIN := hide hin
  clear hw6 w6 HWi hin c1' c0'
  by_cases a1 : s < 1
  · have HN := hide (noFr_mid (n := n) h0 hm (fun d hd _ e => by have := (HK.out d hd e).2.1; have := hd.1.1; omega) (fun l _ e => by simp at e))
    have c0 : w5.cell? ⟨b4 + 1, 0, none⟩ = some (.int .i64 s) := cell_blk kF 0
    have c1 : w5.cell? ⟨b4 + 1, 1, none⟩ = some (.slice aq n cq) := cell_blk kF 1
    have c2 : w5.cell? ⟨b4 + 1, 2, none⟩ = some (.slice none 0 0) := cell_blk kF 2
    have r0 : w5.cell? ⟨b4, 0, none⟩ = some (.int .i64 0) := cell_blk kR 0
    have z0 : w5.frozen? ⟨b4, 0, none⟩ = false := frozen_blk kR 0
    have r1 : w5.cell? ⟨b4, 1, none⟩ = some (.slice none 0 0) := cell_blk kR 1
    have z1 : w5.frozen? ⟨b4, 1, none⟩ = false := frozen_blk kR 1
    have r2 : w5.cell? ⟨b4, 2, none⟩ = some (.slice none 0 0) := cell_blk kR 2
    have z2 : w5.frozen? ⟨b4, 2, none⟩ = false := frozen_blk kR 2
    go_wp2_with fail
    have hF8 : Fr [] w (((w5.setCell ⟨b4, 0, none⟩ (.int .i64 s)).setCell ⟨b4, 1, none⟩ (.slice aq n cq)).setCell ⟨b4, 2, none⟩ (.slice none 0 0)) := by
      iterate 3 refine Fr.setCell ?_ (.inr (by simp; omega)) _
      exact hFD
    have k8 : (((w5.setCell ⟨b4, 0, none⟩ (.int .i64 s)).setCell ⟨b4, 1, none⟩ (.slice aq n cq)).setCell ⟨b4, 2, none⟩ (.slice none 0 0)).heap[b4]? = some (.cells #[.int .i64 s, .slice aq n cq, .slice none 0 0] 84) := set3_blk kR
    generalize (((w5.setCell ⟨b4, 0, none⟩ (.int .i64 s)).setCell ⟨b4, 1, none⟩ (.slice aq n cq)).setCell ⟨b4, 2, none⟩ (.slice none 0 0)) = w8 at hF8 k8 ⊢
    clear c0 c1 c2 r0 r1 r2 z0 z1 z2
    have e0 : w8.cell? ⟨b4, 0, none⟩ = some (.int .i64 s) := cell_blk k8 0
    have e1 : w8.cell? ⟨b4, 1, none⟩ = some (.slice aq n cq) := cell_blk k8 1
    have e2 : w8.cell? ⟨b4, 2, none⟩ = some (.slice none 0 0) := cell_blk k8 2
    exact bodyPost_ret (v := .tuple #[.agg #[.int .i64 s, .slice aq n cq, .slice none 0 0], .bool false]) (by simp [results, Tryz.results69, go_sem, e0, e1, e2]) rfl ⟨hF8.toGrown, .inl ⟨_, rfl, HN.out, _, _, _, _, _, _, _, rfl⟩⟩
  by_cases a2 : (n : Int) < s
  · have HN := hide (noFr_mid (n := n) h0 hm (fun d hd _ e => by have := (HK.out d hd e).2.1; have := hd.1.2; omega) (fun l _ e => by simp at e))
    have c0 : w5.cell? ⟨b4 + 1, 0, none⟩ = some (.int .i64 s) := cell_blk kF 0
    have c1 : w5.cell? ⟨b4 + 1, 1, none⟩ = some (.slice aq n cq) := cell_blk kF 1
    have c2 : w5.cell? ⟨b4 + 1, 2, none⟩ = some (.slice none 0 0) := cell_blk kF 2
    have r0 : w5.cell? ⟨b4, 0, none⟩ = some (.int .i64 0) := cell_blk kR 0
    have z0 : w5.frozen? ⟨b4, 0, none⟩ = false := frozen_blk kR 0
    have r1 : w5.cell? ⟨b4, 1, none⟩ = some (.slice none 0 0) := cell_blk kR 1
    have z1 : w5.frozen? ⟨b4, 1, none⟩ = false := frozen_blk kR 1
    have r2 : w5.cell? ⟨b4, 2, none⟩ = some (.slice none 0 0) := cell_blk kR 2
    have z2 : w5.frozen? ⟨b4, 2, none⟩ = false := frozen_blk kR 2
    go_wp2_with fail
    have hF8 : Fr [] w (((w5.setCell ⟨b4, 0, none⟩ (.int .i64 s)).setCell ⟨b4, 1, none⟩ (.slice aq n cq)).setCell ⟨b4, 2, none⟩ (.slice none 0 0)) := by
      iterate 3 refine Fr.setCell ?_ (.inr (by simp; omega)) _
      exact hFD
    have k8 : (((w5.setCell ⟨b4, 0, none⟩ (.int .i64 s)).setCell ⟨b4, 1, none⟩ (.slice aq n cq)).setCell ⟨b4, 2, none⟩ (.slice none 0 0)).heap[b4]? = some (.cells #[.int .i64 s, .slice aq n cq, .slice none 0 0] 84) := set3_blk kR
    generalize (((w5.setCell ⟨b4, 0, none⟩ (.int .i64 s)).setCell ⟨b4, 1, none⟩ (.slice aq n cq)).setCell ⟨b4, 2, none⟩ (.slice none 0 0)) = w8 at hF8 k8 ⊢
    clear c0 c1 c2 r0 r1 r2 z0 z1 z2
    have e0 : w8.cell? ⟨b4, 0, none⟩ = some (.int .i64 s) := cell_blk k8 0
    have e1 : w8.cell? ⟨b4, 1, none⟩ = some (.slice aq n cq) := cell_blk k8 1
    have e2 : w8.cell? ⟨b4, 2, none⟩ = some (.slice none 0 0) := cell_blk k8 2
    exact bodyPost_ret (v := .tuple #[.agg #[.int .i64 s, .slice aq n cq, .slice none 0 0], .bool false]) (by simp [results, Tryz.results69, go_sem, e0, e1, e2]) rfl ⟨hF8.toGrown, .inl ⟨_, rfl, HN.out, _, _, _, _, _, _, _, rfl⟩⟩
  cases inb with
  | false =>
    have HN := hide (noFr_mid (n := n) h0 hm (fun d hd _ e => by
      have h2 := (HK.out d hd e).2.2
      have h3 : ∀ x ∈ xs, x ≤ 100 := fun x hx => by
        rw [h2] at hx
        obtain ⟨i, hi, rfl⟩ := clk_mem hx
        exact (hd.2.1 i hi).2
      have := HIN.out.2 h3
      simp at this) (fun l _ e => by simp at e))
    have c0 : w5.cell? ⟨b4 + 1, 0, none⟩ = some (.int .i64 s) := cell_blk kF 0
    have c1 : w5.cell? ⟨b4 + 1, 1, none⟩ = some (.slice aq n cq) := cell_blk kF 1
    have c2 : w5.cell? ⟨b4 + 1, 2, none⟩ = some (.slice none 0 0) := cell_blk kF 2
    have r0 : w5.cell? ⟨b4, 0, none⟩ = some (.int .i64 0) := cell_blk kR 0
    have z0 : w5.frozen? ⟨b4, 0, none⟩ = false := frozen_blk kR 0
    have r1 : w5.cell? ⟨b4, 1, none⟩ = some (.slice none 0 0) := cell_blk kR 1
    have z1 : w5.frozen? ⟨b4, 1, none⟩ = false := frozen_blk kR 1
    have r2 : w5.cell? ⟨b4, 2, none⟩ = some (.slice none 0 0) := cell_blk kR 2
    have z2 : w5.frozen? ⟨b4, 2, none⟩ = false := frozen_blk kR 2
    go_wp2_with fail
    have hF8 : Fr [] w (((w5.setCell ⟨b4, 0, none⟩ (.int .i64 s)).setCell ⟨b4, 1, none⟩ (.slice aq n cq)).setCell ⟨b4, 2, none⟩ (.slice none 0 0)) := by
      iterate 3 refine Fr.setCell ?_ (.inr (by simp; omega)) _
      exact hFD
    have k8 : (((w5.setCell ⟨b4, 0, none⟩ (.int .i64 s)).setCell ⟨b4, 1, none⟩ (.slice aq n cq)).setCell ⟨b4, 2, none⟩ (.slice none 0 0)).heap[b4]? = some (.cells #[.int .i64 s, .slice aq n cq, .slice none 0 0] 84) := set3_blk kR
    generalize (((w5.setCell ⟨b4, 0, none⟩ (.int .i64 s)).setCell ⟨b4, 1, none⟩ (.slice aq n cq)).setCell ⟨b4, 2, none⟩ (.slice none 0 0)) = w8 at hF8 k8 ⊢
    clear c0 c1 c2 r0 r1 r2 z0 z1 z2
    have e0 : w8.cell? ⟨b4, 0, none⟩ = some (.int .i64 s) := cell_blk k8 0
    have e1 : w8.cell? ⟨b4, 1, none⟩ = some (.slice aq n cq) := cell_blk k8 1
    have e2 : w8.cell? ⟨b4, 2, none⟩ = some (.slice none 0 0) := cell_blk k8 2
    exact bodyPost_ret (v := .tuple #[.agg #[.int .i64 s, .slice aq n cq, .slice none 0 0], .bool false]) (by simp [results, Tryz.results69, go_sem, e0, e1, e2]) rfl ⟨hF8.toGrown, .inl ⟨_, rfl, HN.out, _, _, _, _, _, _, _, rfl⟩⟩
  | true =>
    have HX100 := hide (HIN.out.1 rfl)
    cases bad2 with
    | true =>
      have HN := hide (noFr_mid (n := n) h0 hm (fun d hd _ e => by have := (HK.out d hd e).1; simp at this) (fun l _ e => by simp at e))
      have c0 : w5.cell? ⟨b4 + 1, 0, none⟩ = some (.int .i64 s) := cell_blk kF 0
      have c1 : w5.cell? ⟨b4 + 1, 1, none⟩ = some (.slice aq n cq) := cell_blk kF 1
      have c2 : w5.cell? ⟨b4 + 1, 2, none⟩ = some (.slice none 0 0) := cell_blk kF 2
      have cc : w5.cell? ⟨b4 + 1 + 1, 1, none⟩ = some (.bool true) := cell_blk kC 1
      have r0 : w5.cell? ⟨b4, 0, none⟩ = some (.int .i64 0) := cell_blk kR 0
      have z0 : w5.frozen? ⟨b4, 0, none⟩ = false := frozen_blk kR 0
      have r1 : w5.cell? ⟨b4, 1, none⟩ = some (.slice none 0 0) := cell_blk kR 1
      have z1 : w5.frozen? ⟨b4, 1, none⟩ = false := frozen_blk kR 1
      have r2 : w5.cell? ⟨b4, 2, none⟩ = some (.slice none 0 0) := cell_blk kR 2
      have z2 : w5.frozen? ⟨b4, 2, none⟩ = false := frozen_blk kR 2
      go_wp2_with fail
      go_region
      all_goals
        go_wp2_with fail
        have hF8 : Fr [] w (((w5.setCell ⟨b4, 0, none⟩ (.int .i64 s)).setCell ⟨b4, 1, none⟩ (.slice aq n cq)).setCell ⟨b4, 2, none⟩ (.slice none 0 0)).drew := by
          refine Fr.drew ?_
          iterate 3 refine Fr.setCell ?_ (.inr (by simp; omega)) _
          exact hFD
        have k8 : (((w5.setCell ⟨b4, 0, none⟩ (.int .i64 s)).setCell ⟨b4, 1, none⟩ (.slice aq n cq)).setCell ⟨b4, 2, none⟩ (.slice none 0 0)).drew.heap[b4]? = some (.cells #[.int .i64 s, .slice aq n cq, .slice none 0 0] 84) := set3_blk kR
        generalize (((w5.setCell ⟨b4, 0, none⟩ (.int .i64 s)).setCell ⟨b4, 1, none⟩ (.slice aq n cq)).setCell ⟨b4, 2, none⟩ (.slice none 0 0)).drew = w8 at hF8 k8 ⊢
        clear r0 r1 r2 z0 z1 z2
        have e0 : w8.cell? ⟨b4, 0, none⟩ = some (.int .i64 s) := cell_blk k8 0
        have e1 : w8.cell? ⟨b4, 1, none⟩ = some (.slice aq n cq) := cell_blk k8 1
        have e2 : w8.cell? ⟨b4, 2, none⟩ = some (.slice none 0 0) := cell_blk k8 2
        exact bodyPost_ret (v := .tuple #[.agg #[.int .i64 s, .slice aq n cq, .slice none 0 0], .bool false]) (by simp [results, Tryz.results69, go_sem, e0, e1, e2]) rfl ⟨hF8.toGrown, .inl ⟨_, rfl, HN.out, _, _, _, _, _, _, _, rfl⟩⟩
    | false =>
      have hcq : clk n (qOf xs) = xs := by rw [← hxl]; exact clk_qOf xs
      have HW : Hid (Calls Tryz.prog 42 #[.agg #[.int .i64 s, .slice aq n cq, .slice none 0 0]] w5.drew fun e w' => e = .returned (str (digest n s (qOf xs))) ∧ w5.drew.grownBy w' none) := hide (writeDigR s (by omega) (by omega) n h8 (qOf xs) (HQ.out HX100.out) (.slice aq n cq) (.slice none 0 0) w5.drew (by rw [hcq]; exact hR5.kept (fun _ _ => rfl)))
      have HM : Hid (digest n s (qOf xs) = sealB (68 :: dEnc n (s, qOf xs))) := hide rfl
      have HCQ := hide hcq
      generalize hMM : digest n s (qOf xs) = M at HW HM
      clear hMM hcq
      by_cases hMD : M = D
      · have hEB : (M == D) = true := by simp [hMD]
        have HG : Hid (dOk n (s, qOf xs) ∧ D = sealB (68 :: dEnc n (s, qOf xs))) := hide ⟨⟨⟨by show 1 ≤ s; omega, by show s ≤ n; omega⟩, HQ.out HX100.out, fun i hi => qOf_out (by omega)⟩, by rw [← hMD, HM.out]⟩
        clear hMD
        have c0 : w5.cell? ⟨b4 + 1, 0, none⟩ = some (.int .i64 s) := cell_blk kF 0
        have c1 : w5.cell? ⟨b4 + 1, 1, none⟩ = some (.slice aq n cq) := cell_blk kF 1
        have c2 : w5.cell? ⟨b4 + 1, 2, none⟩ = some (.slice none 0 0) := cell_blk kF 2
        have cc : w5.cell? ⟨b4 + 1 + 1, 1, none⟩ = some (.bool false) := cell_blk kC 1
        go_wp2_with fail
        go_region_held3 (fun w' => w'.cell? ⟨b4 + 1, 0, none⟩ = some (.int .i64 s) ∧ w'.cell? ⟨b4 + 1, 1, none⟩ = some (.slice aq n cq) ∧ w'.cell? ⟨b4 + 1, 2, none⟩ = some (.slice none 0 0) ∧ w'.cell? ⟨b4 + 1 + 1, 1, none⟩ = some (.bool false))
          (first | exact ⟨by rw [set3 n1]; exact ck _ _ c0, by rw [set3 n1]; exact ck _ _ c1, by rw [set3 n1]; exact ck _ _ c2, by rw [set3 n2]; exact ck _ _ cc⟩ | exact ⟨by with_reducible exact ck _ _ c0, ck _ _ c1, ck _ _ c2, ck _ _ cc⟩ | go_keep)
          (first | (go_at_call 42; refine HW.out.mono ?_; rintro e w7 ⟨rfl, hg⟩; have ck : ∀ (a : Addr) (x : Value), w5.cell? a = some x → w7.cell? a = some x := (fun a x hx => cell_of_grown hx (grown_trans (grown_drew (grown_refl w5)) hg)); have kR7 : w7.heap[b4]? = some (.cells #[.int .i64 0, .slice none 0 0, .slice none 0 0] 84) := (hg.block b4 (lt_of_heap kR) (by simp)).trans kR; have r0 : w7.cell? ⟨b4, 0, none⟩ = some (.int .i64 0) := cell_blk kR7 0; have r1 : w7.cell? ⟨b4, 1, none⟩ = some (.slice none 0 0) := cell_blk kR7 1; have r2 : w7.cell? ⟨b4, 2, none⟩ = some (.slice none 0 0) := cell_blk kR7 2; have z0 : w7.frozen? ⟨b4, 0, none⟩ = false := frozen_blk kR7 0; have z1 : w7.frozen? ⟨b4, 1, none⟩ = false := frozen_blk kR7 1; have z2 : w7.frozen? ⟨b4, 2, none⟩ = false := frozen_blk kR7 2))
        all_goals
          go_wp2_with fail
          have hF8 : Fr [] w (((w7.setCell ⟨b4, 0, none⟩ (.int .i64 s)).setCell ⟨b4, 1, none⟩ (.slice aq n cq)).setCell ⟨b4, 2, none⟩ (.slice none 0 0)) := by
            iterate 3 refine Fr.setCell ?_ (.inr (by simp; omega)) _
            exact (hFD.drew).grown hg (by simp)
          have k8 : (((w7.setCell ⟨b4, 0, none⟩ (.int .i64 s)).setCell ⟨b4, 1, none⟩ (.slice aq n cq)).setCell ⟨b4, 2, none⟩ (.slice none 0 0)).heap[b4]? = some (.cells #[.int .i64 s, .slice aq n cq, .slice none 0 0] 84) := set3_blk kR7
          have hR8 : RowAt 3 1 (.slice aq n cq) (intRow xs) (((w7.setCell ⟨b4, 0, none⟩ (.int .i64 s)).setCell ⟨b4, 1, none⟩ (.slice aq n cq)).setCell ⟨b4, 2, none⟩ (.slice none 0 0)) := by
            have hx := (hR5.kept (w' := w5.drew) (fun _ _ => rfl)).grown hg
            refine hx.kept (fun g hg2 => ?_)
            have hne : g ≠ b4 := fun e => hx.neBlk kR7 (by decide) (e ▸ hg2)
            iterate 3 rw [Below.heap_setCell _ _ _ _ hne]
          generalize (((w7.setCell ⟨b4, 0, none⟩ (.int .i64 s)).setCell ⟨b4, 1, none⟩ (.slice aq n cq)).setCell ⟨b4, 2, none⟩ (.slice none 0 0)) = w8 at hF8 k8 hR8 ⊢
          clear r0 r1 r2 z0 z1 z2
          have e0 : w8.cell? ⟨b4, 0, none⟩ = some (.int .i64 s) := cell_blk k8 0
          have e1 : w8.cell? ⟨b4, 1, none⟩ = some (.slice aq n cq) := cell_blk k8 1
          have e2 : w8.cell? ⟨b4, 2, none⟩ = some (.slice none 0 0) := cell_blk k8 2
          exact bodyPost_ret (v := .tuple #[.agg #[.int .i64 s, .slice aq n cq, .slice none 0 0], .bool true]) (by simp [results, Tryz.results69, go_sem, e0, e1, e2]) rfl ⟨hF8.toGrown, .inr (.inl ⟨s, qOf xs, _, HG.out.1, h120, HG.out.2, by rw [HCQ.out]; exact hR8, fun g hg => by have := hfresh g hg; omega, rfl⟩)⟩
      · have hEB : (M == D) = false := by simp [hMD]
        have HN : Hid (NoFr n D) := hide ⟨fun d hd _ e => by
          have hL : L0 = dEnc n d := by rw [← hm, e, mid_seal]
          obtain ⟨-, h2, h3⟩ := HK.out d hd hL
          apply hMD
          rw [HM.out, e]
          show sealB (68 :: (vbI s ++ vbs (clk n (qOf xs)))) = sealB (68 :: (vbI d.1 ++ vbs (clk n d.2)))
          rw [HCQ.out, h3, h2], fun l _ _ e => by
          rw [e] at h0
          simp [sealB] at h0⟩
        clear hMD
        have c0 : w5.cell? ⟨b4 + 1, 0, none⟩ = some (.int .i64 s) := cell_blk kF 0
        have c1 : w5.cell? ⟨b4 + 1, 1, none⟩ = some (.slice aq n cq) := cell_blk kF 1
        have c2 : w5.cell? ⟨b4 + 1, 2, none⟩ = some (.slice none 0 0) := cell_blk kF 2
        have cc : w5.cell? ⟨b4 + 1 + 1, 1, none⟩ = some (.bool false) := cell_blk kC 1
        go_wp2_with fail
        go_region_held3 (fun w' => w'.cell? ⟨b4 + 1, 0, none⟩ = some (.int .i64 s) ∧ w'.cell? ⟨b4 + 1, 1, none⟩ = some (.slice aq n cq) ∧ w'.cell? ⟨b4 + 1, 2, none⟩ = some (.slice none 0 0) ∧ w'.cell? ⟨b4 + 1 + 1, 1, none⟩ = some (.bool false))
          (first | exact ⟨by rw [set3 n1]; exact ck _ _ c0, by rw [set3 n1]; exact ck _ _ c1, by rw [set3 n1]; exact ck _ _ c2, by rw [set3 n2]; exact ck _ _ cc⟩ | exact ⟨by with_reducible exact ck _ _ c0, ck _ _ c1, ck _ _ c2, ck _ _ cc⟩ | go_keep)
          (first | (go_at_call 42; refine HW.out.mono ?_; rintro e w7 ⟨rfl, hg⟩; have ck : ∀ (a : Addr) (x : Value), w5.cell? a = some x → w7.cell? a = some x := (fun a x hx => cell_of_grown hx (grown_trans (grown_drew (grown_refl w5)) hg)); have kR7 : w7.heap[b4]? = some (.cells #[.int .i64 0, .slice none 0 0, .slice none 0 0] 84) := (hg.block b4 (lt_of_heap kR) (by simp)).trans kR; have r0 : w7.cell? ⟨b4, 0, none⟩ = some (.int .i64 0) := cell_blk kR7 0; have r1 : w7.cell? ⟨b4, 1, none⟩ = some (.slice none 0 0) := cell_blk kR7 1; have r2 : w7.cell? ⟨b4, 2, none⟩ = some (.slice none 0 0) := cell_blk kR7 2; have z0 : w7.frozen? ⟨b4, 0, none⟩ = false := frozen_blk kR7 0; have z1 : w7.frozen? ⟨b4, 1, none⟩ = false := frozen_blk kR7 1; have z2 : w7.frozen? ⟨b4, 2, none⟩ = false := frozen_blk kR7 2))
        all_goals
          go_wp2_with fail
          have hF8 : Fr [] w (((w7.setCell ⟨b4, 0, none⟩ (.int .i64 s)).setCell ⟨b4, 1, none⟩ (.slice aq n cq)).setCell ⟨b4, 2, none⟩ (.slice none 0 0)) := by
            iterate 3 refine Fr.setCell ?_ (.inr (by simp; omega)) _
            exact (hFD.drew).grown hg (by simp)
          have k8 : (((w7.setCell ⟨b4, 0, none⟩ (.int .i64 s)).setCell ⟨b4, 1, none⟩ (.slice aq n cq)).setCell ⟨b4, 2, none⟩ (.slice none 0 0)).heap[b4]? = some (.cells #[.int .i64 s, .slice aq n cq, .slice none 0 0] 84) := set3_blk kR7
          generalize (((w7.setCell ⟨b4, 0, none⟩ (.int .i64 s)).setCell ⟨b4, 1, none⟩ (.slice aq n cq)).setCell ⟨b4, 2, none⟩ (.slice none 0 0)) = w8 at hF8 k8 ⊢
          clear r0 r1 r2 z0 z1 z2
          have e0 : w8.cell? ⟨b4, 0, none⟩ = some (.int .i64 s) := cell_blk k8 0
          have e1 : w8.cell? ⟨b4, 1, none⟩ = some (.slice aq n cq) := cell_blk k8 1
          have e2 : w8.cell? ⟨b4, 2, none⟩ = some (.slice none 0 0) := cell_blk k8 2
          exact bodyPost_ret (v := .tuple #[.agg #[.int .i64 s, .slice aq n cq, .slice none 0 0], .bool false]) (by simp [results, Tryz.results69, go_sem, e0, e1, e2]) rfl ⟨hF8.toGrown, .inl ⟨_, rfl, HN.out, _, _, _, _, _, _, _, rfl⟩⟩

end Go.Proofs.YtachmkhbbbmioaaGreat
