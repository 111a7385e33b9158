import Derived.Test.YtachmkhbbbmioaaGreatRdF
import Derived.Test.YtachmkhbbbmioaaGreatCuCX
namespace Go.Proofs.YtachmkhbbbmioaaGreat
open Go.RowKit Go.Shelf

/-- What comes of taking the sum off. -/
def Unsl (D : List UInt8) (w : World) (e : Ending) (w' : World) : Prop :=
  ∃ m ok, e = .returned (.tuple #[str m, .bool ok]) ∧ w.grownBy w' none ∧ (ok = true → D = sealB m) ∧ m.length ≤ 116 ∧ (∀ m', m'.length ≤ 116 → D = sealB m' → ok = true ∧ m = m')

theorem seal_take (m : List UInt8) : (sealB m).take ((sealB m).length - 4) = m := by
  have e : (sealB m).length - 4 = m.length := by rw [seal_len]; omega
  rw [e]
  unfold sealB
  rw [List.take_left]

set_option maxRecDepth 100000 in
set_option maxHeartbeats 2000000 in
theorem unsealP (D : List UInt8) (w : World) :
    Calls Tryz.prog 125 #[str D] w fun e w' => Unsl D w e w' := by
  by_cases hb : D.length ≤ 120 ∧ 4 ≤ D.length
  · obtain ⟨ml, hml⟩ : ∃ ml, D.length = ml + 4 := ⟨D.length - 4, by omega⟩
    have htk : ∀ w, (Instr.slice 9 (str D) none (some (.int .i64 (ml : Int))) none).run Tryz.prog w = .ok (str (D.take ml)) w := fun w => str_take D ml (by omega) w
    obtain ⟨m, hm⟩ : ∃ m, m = D.take ml := ⟨_, rfl⟩
    rw [← hm] at htk
    have hmln : m.length = ml := by rw [hm, List.length_take]; omega
    obtain ⟨c, w1, hcv, g1, hlt, hc, hsp⟩ := str_bytes m w
    have HS := hide (sealP w.heap.size c m (by omega) w1 hc hlt hsp)
    have hback : ∀ m', m'.length ≤ 116 → D = sealB m' → (sealB m == D) = true ∧ m = m' := fun m' _ e => by
      have e2 : m = m' := by rw [hm, show ml = D.length - 4 from by omega, e, seal_take]
      exact ⟨by rw [e2, ← e]; simp, e2⟩
    generalize hSM : sealB m = SM at HS hback
    generalize hbb : (SM == D) = bb at hback
    have hforth : bb = true → D = sealB m := fun e => by
      rw [← hbb] at e
      rw [hSM]
      exact (by simpa using e : SM = D).symm
    have HBK := hide hback
    have HFO := hide hforth
    clear hback hforth hSM
    have hDl : (D.length : Int) = (ml : Int) + 4 := by omega
    have hw1 : IntKind.i64.wrap ((ml : Int) + 4 - 4) = (ml : Int) := by rw [IntKind.wrap_i64]; omega
    have hd1 : ¬ (120 : Int) < (ml : Int) + 4 := by omega
    have hd2 : ¬ ((ml : Int) + 4) < 4 := by omega
    have hml116 : m.length ≤ 116 := by omega
    rw [hmln] at hcv HS
    clear hc hsp hm
    go_enter Tryz.func125, Tryz.ntmps125
    go_wp2_with fail
    refine HS.out.mono ?_
    rintro e w2 ⟨rfl, hF2⟩
    go_wp2_with fail
    exact bodyPost_ret (v := .tuple #[str m, .bool bb]) (by simp [results, Tryz.results125, go_sem]) rfl ⟨m, bb, rfl, ((Fr.ofGrown g1 : Fr [] w w1).after hF2 (fun x hx => .inr (by simp at hx; omega))).toGrown, HFO.out, hml116, HBK.out⟩
  · have hno : ∀ m' : List UInt8, m'.length ≤ 116 → D = sealB m' → false = true ∧ [] = m' := fun m' h e => by
      have := congrArg List.length e
      rw [seal_len] at this
      omega
    have HN := hide hno
    clear hno
    by_cases h1 : (120 : Int) < (D.length : Int)
    · go_enter Tryz.func125, Tryz.ntmps125
      go_wp2_with fail
      exact bodyPost_ret (v := .tuple #[str [], .bool false]) (by simp [results, Tryz.results125, go_sem]) rfl ⟨[], false, rfl, grown_refl _, by simp, by simp, HN.out⟩
    · have h2 : (D.length : Int) < 4 := by omega
      go_enter Tryz.func125, Tryz.ntmps125
      go_wp2_with fail
      exact bodyPost_ret (v := .tuple #[str [], .bool false]) (by simp [results, Tryz.results125, go_sem]) rfl ⟨[], false, rfl, grown_refl _, by simp, by simp, HN.out⟩

/-- No frame. -/
def NoFr (n : Nat) (D : List UInt8) : Prop := (∀ d, dOk n d → D.length ≤ 120 → D ≠ sealB (68 :: dEnc n d)) ∧ ∀ l, bOk n l → D.length ≤ 120 → D ≠ sealB (66 :: bEnc n l)

theorem noFr {n : Nat} {D m : List UInt8} (hc : ∀ m', m'.length ≤ 116 → D = sealB m' → m = m') (h1 : ∀ d, dOk n d → m ≠ 68 :: dEnc n d) (h2 : ∀ l, bOk n l → m ≠ 66 :: bEnc n l) : NoFr n D := by
  refine ⟨fun d hd hl e => ?_, fun l hb hl e => ?_⟩
  · have hl2 := congrArg List.length e
    rw [seal_len] at hl2
    exact h1 d hd (hc _ (by omega) e)
  · have hl2 := congrArg List.length e
    rw [seal_len] at hl2
    exact h2 l hb (hc _ (by omega) e)
theorem noFr0 {n : Nat} {D : List UInt8} (hc : ∀ m', m'.length ≤ 116 → D = sealB m' → False) : NoFr n D := by
  refine ⟨fun d hd hl e => ?_, fun l hb hl e => ?_⟩
  · have hl2 := congrArg List.length e
    rw [seal_len] at hl2
    exact hc _ (by omega) e
  · have hl2 := congrArg List.length e
    rw [seal_len] at hl2
    exact hc _ (by omega) e

/-- What comes of reading anything. -/
def ReadRd (n : Nat) (D : List UInt8) (w : World) (e : Ending) (w' : World) : Prop :=
  w.grownBy w' none ∧
  ((e = .returned (.tuple #[.agg (frArr 0 0 (fun _ => 0) (.slice none 0 0)), .bool false]) ∧ NoFr n D) ∨
   (∃ s q, dOk n (s, q) ∧ D.length ≤ 120 ∧ D = sealB (68 :: dEnc n (s, q)) ∧ e = .returned (.tuple #[.agg (frArr 0 s q (.slice none 0 0)), .bool true])) ∨
   ∃ l v, bOk n l ∧ D.length ≤ 120 ∧ D = sealB (66 :: bEnc n l) ∧ RowAt 154 15 v (opRow l) w' ∧ (∀ g, v.ownBlock = some g → w.heap.size ≤ g) ∧ e = .returned (.tuple #[.agg (frArr 1 0 (fun _ => 0) v), .bool true]))

set_option maxRecDepth 100000 in
set_option maxHeartbeats 8000000 in
theorem readP (n : Nat) (h1 : 1 ≤ n) (h8 : n ≤ 8) (D : List UInt8) (w : World) :
    Calls Tryz.prog 87 #[.int .i64 n, str D] w fun e w' => ReadRd n D w e w' := by
  have HU := hide (fun w => unsealP D w)
  go_enter Tryz.func87, Tryz.ntmps87
  go_upto_region 1 with fail
  have g1 : w.grownBy (w.alloc (.cells #[.int .i64 0, .int .i64 0, .int .i64 0, .int .i64 0, .int .i64 0, .int .i64 0, .int .i64 0, .int .i64 0, .int .i64 0, .int .i64 0, .slice none 0 0] 143)) none := grown_alloc (grown_refl _) _
  have k1 : (w.alloc (.cells #[.int .i64 0, .int .i64 0, .int .i64 0, .int .i64 0, .int .i64 0, .int .i64 0, .int .i64 0, .int .i64 0, .int .i64 0, .int .i64 0, .slice none 0 0] 143)).heap[w.heap.size]? = some (.cells #[.int .i64 0, .int .i64 0, .int .i64 0, .int .i64 0, .int .i64 0, .int .i64 0, .int .i64 0, .int .i64 0, .int .i64 0, .int .i64 0, .slice none 0 0] 143) := by rw [heap_alloc_at]; simp
  generalize (w.alloc (.cells #[.int .i64 0, .int .i64 0, .int .i64 0, .int .i64 0, .int .i64 0, .int .i64 0, .int .i64 0, .int .i64 0, .int .i64 0, .int .i64 0, .slice none 0 0] 143)) = w1 at g1 k1 ⊢
  obtain ⟨b4, hb4⟩ : ∃ b, w.heap.size = b := ⟨_, rfl⟩
  rw [hb4] at k1 ⊢
  go_wp2_with fail
  refine (HU.out w1).mono ?_
  rintro e w2 ⟨m, ok, rfl, g2, hok, hml, hback⟩
  have k2 := (g2.block _ (lt_of_heap k1) (by simp)).trans k1
  have hlt2 := lt_of_heap k2
  have gB := grown_trans g1 g2
  have HOK := hide hok
  have HBK := hide (fun m' h e => (hback m' h e).2)
  have HB1 := hide (fun m' h e => (hback m' h e).1)
  clear hok hback k1 g1 g2 HU
  cases ok with
  | false =>
    have HN := hide (noFr0 (n := n) (fun m' h e => by have := HB1.out m' h e; simp at this))
    have hFr2 : Fr [] w w2 := Fr.ofGrown gB
    have d0 : w2.cell? ⟨b4, 0, none⟩ = some (.int .i64 0) := cell_blk k2 0
    have f0 : w2.frozen? ⟨b4, 0, none⟩ = false := frozen_blk k2 0
    have d1 : w2.cell? ⟨b4, 1, none⟩ = some (.int .i64 0) := cell_blk k2 1
    have f1 : w2.frozen? ⟨b4, 1, none⟩ = false := frozen_blk k2 1
    have d2 : w2.cell? ⟨b4, 2, none⟩ = some (.int .i64 0) := cell_blk k2 2
    have f2 : w2.frozen? ⟨b4, 2, none⟩ = false := frozen_blk k2 2
    have d3 : w2.cell? ⟨b4, 3, none⟩ = some (.int .i64 0) := cell_blk k2 3
    have f3 : w2.frozen? ⟨b4, 3, none⟩ = false := frozen_blk k2 3
    have d4 : w2.cell? ⟨b4, 4, none⟩ = some (.int .i64 0) := cell_blk k2 4
    have f4 : w2.frozen? ⟨b4, 4, none⟩ = false := frozen_blk k2 4
    have d5 : w2.cell? ⟨b4, 5, none⟩ = some (.int .i64 0) := cell_blk k2 5
    have f5 : w2.frozen? ⟨b4, 5, none⟩ = false := frozen_blk k2 5
    have d6 : w2.cell? ⟨b4, 6, none⟩ = some (.int .i64 0) := cell_blk k2 6
    have f6 : w2.frozen? ⟨b4, 6, none⟩ = false := frozen_blk k2 6
    have d7 : w2.cell? ⟨b4, 7, none⟩ = some (.int .i64 0) := cell_blk k2 7
    have f7 : w2.frozen? ⟨b4, 7, none⟩ = false := frozen_blk k2 7
    have d8 : w2.cell? ⟨b4, 8, none⟩ = some (.int .i64 0) := cell_blk k2 8
    have f8 : w2.frozen? ⟨b4, 8, none⟩ = false := frozen_blk k2 8
    have d9 : w2.cell? ⟨b4, 9, none⟩ = some (.int .i64 0) := cell_blk k2 9
    have f9 : w2.frozen? ⟨b4, 9, none⟩ = false := frozen_blk k2 9
    have d10 : w2.cell? ⟨b4, 10, none⟩ = some (.slice none 0 0) := cell_blk k2 10
    have f10 : w2.frozen? ⟨b4, 10, none⟩ = false := frozen_blk k2 10
    go_wp2_with fail
    have hF7 : Fr [] w (((((((((((w2.setCell ⟨b4, 0, none⟩ (.int .i64 0)).setCell ⟨b4, 1, none⟩ (.int .i64 0)).setCell ⟨b4, 2, none⟩ (.int .i64 0)).setCell ⟨b4, 3, none⟩ (.int .i64 0)).setCell ⟨b4, 4, none⟩ (.int .i64 0)).setCell ⟨b4, 5, none⟩ (.int .i64 0)).setCell ⟨b4, 6, none⟩ (.int .i64 0)).setCell ⟨b4, 7, none⟩ (.int .i64 0)).setCell ⟨b4, 8, none⟩ (.int .i64 0)).setCell ⟨b4, 9, none⟩ (.int .i64 0)).setCell ⟨b4, 10, none⟩ (.slice none 0 0)) := by
      iterate 11 refine Fr.setCell ?_ (.inr (by simp; omega)) _
      exact hFr2
    have z4 : (((((((((((w2.setCell ⟨b4, 0, none⟩ (.int .i64 0)).setCell ⟨b4, 1, none⟩ (.int .i64 0)).setCell ⟨b4, 2, none⟩ (.int .i64 0)).setCell ⟨b4, 3, none⟩ (.int .i64 0)).setCell ⟨b4, 4, none⟩ (.int .i64 0)).setCell ⟨b4, 5, none⟩ (.int .i64 0)).setCell ⟨b4, 6, none⟩ (.int .i64 0)).setCell ⟨b4, 7, none⟩ (.int .i64 0)).setCell ⟨b4, 8, none⟩ (.int .i64 0)).setCell ⟨b4, 9, none⟩ (.int .i64 0)).setCell ⟨b4, 10, none⟩ (.slice none 0 0)).heap[b4]? = some (.cells (frArr 0 0 (fun _ => 0) (.slice none 0 0)) 143) := set11_blk k2
    generalize (((((((((((w2.setCell ⟨b4, 0, none⟩ (.int .i64 0)).setCell ⟨b4, 1, none⟩ (.int .i64 0)).setCell ⟨b4, 2, none⟩ (.int .i64 0)).setCell ⟨b4, 3, none⟩ (.int .i64 0)).setCell ⟨b4, 4, none⟩ (.int .i64 0)).setCell ⟨b4, 5, none⟩ (.int .i64 0)).setCell ⟨b4, 6, none⟩ (.int .i64 0)).setCell ⟨b4, 7, none⟩ (.int .i64 0)).setCell ⟨b4, 8, none⟩ (.int .i64 0)).setCell ⟨b4, 9, none⟩ (.int .i64 0)).setCell ⟨b4, 10, none⟩ (.slice none 0 0)) = w7 at hF7 z4 ⊢
    clear d0 f0 d1 f1 d2 f2 d3 f3 d4 f4 d5 f5 d6 f6 d7 f7 d8 f8 d9 f9 d10 f10
    unfold frArr at z4
    have d0 : w7.cell? ⟨b4, 0, none⟩ = some (.int .i64 0) := cell_blk z4 0
    have d1 : w7.cell? ⟨b4, 1, none⟩ = some (.int .i64 0) := cell_blk z4 1
    have d2 : w7.cell? ⟨b4, 2, none⟩ = some (.int .i64 0) := cell_blk z4 2
    have d3 : w7.cell? ⟨b4, 3, none⟩ = some (.int .i64 0) := cell_blk z4 3
    have d4 : w7.cell? ⟨b4, 4, none⟩ = some (.int .i64 0) := cell_blk z4 4
    have d5 : w7.cell? ⟨b4, 5, none⟩ = some (.int .i64 0) := cell_blk z4 5
    have d6 : w7.cell? ⟨b4, 6, none⟩ = some (.int .i64 0) := cell_blk z4 6
    have d7 : w7.cell? ⟨b4, 7, none⟩ = some (.int .i64 0) := cell_blk z4 7
    have d8 : w7.cell? ⟨b4, 8, none⟩ = some (.int .i64 0) := cell_blk z4 8
    have d9 : w7.cell? ⟨b4, 9, none⟩ = some (.int .i64 0) := cell_blk z4 9
    have d10 : w7.cell? ⟨b4, 10, none⟩ = some (.slice none 0 0) := cell_blk z4 10
    exact bodyPost_ret (v := .tuple #[.agg (frArr 0 0 (fun _ => 0) (.slice none 0 0)), .bool false]) (by simp [results, Tryz.results87, go_sem, frArr, d0, d1, d2, d3, d4, d5, d6, d7, d8, d9, d10]) rfl ⟨hF7.toGrown, .inl ⟨rfl, HN.out⟩⟩
  | true =>
    clear HB1
    have HD0 := hide (HOK.out rfl)
    cases m with
    | nil =>
      have HN := hide (noFr (n := n) HBK.out (by simp) (by simp))
      have hFr2 : Fr [] w w2 := Fr.ofGrown gB
      have hne : (([] : List UInt8) == ([] : List UInt8)) = true := rfl
      have d0 : w2.cell? ⟨b4, 0, none⟩ = some (.int .i64 0) := cell_blk k2 0
      have f0 : w2.frozen? ⟨b4, 0, none⟩ = false := frozen_blk k2 0
      have d1 : w2.cell? ⟨b4, 1, none⟩ = some (.int .i64 0) := cell_blk k2 1
      have f1 : w2.frozen? ⟨b4, 1, none⟩ = false := frozen_blk k2 1
      have d2 : w2.cell? ⟨b4, 2, none⟩ = some (.int .i64 0) := cell_blk k2 2
      have f2 : w2.frozen? ⟨b4, 2, none⟩ = false := frozen_blk k2 2
      have d3 : w2.cell? ⟨b4, 3, none⟩ = some (.int .i64 0) := cell_blk k2 3
      have f3 : w2.frozen? ⟨b4, 3, none⟩ = false := frozen_blk k2 3
      have d4 : w2.cell? ⟨b4, 4, none⟩ = some (.int .i64 0) := cell_blk k2 4
      have f4 : w2.frozen? ⟨b4, 4, none⟩ = false := frozen_blk k2 4
      have d5 : w2.cell? ⟨b4, 5, none⟩ = some (.int .i64 0) := cell_blk k2 5
      have f5 : w2.frozen? ⟨b4, 5, none⟩ = false := frozen_blk k2 5
      have d6 : w2.cell? ⟨b4, 6, none⟩ = some (.int .i64 0) := cell_blk k2 6
      have f6 : w2.frozen? ⟨b4, 6, none⟩ = false := frozen_blk k2 6
      have d7 : w2.cell? ⟨b4, 7, none⟩ = some (.int .i64 0) := cell_blk k2 7
      have f7 : w2.frozen? ⟨b4, 7, none⟩ = false := frozen_blk k2 7
      have d8 : w2.cell? ⟨b4, 8, none⟩ = some (.int .i64 0) := cell_blk k2 8
      have f8 : w2.frozen? ⟨b4, 8, none⟩ = false := frozen_blk k2 8
      have d9 : w2.cell? ⟨b4, 9, none⟩ = some (.int .i64 0) := cell_blk k2 9
      have f9 : w2.frozen? ⟨b4, 9, none⟩ = false := frozen_blk k2 9
      have d10 : w2.cell? ⟨b4, 10, none⟩ = some (.slice none 0 0) := cell_blk k2 10
      have f10 : w2.frozen? ⟨b4, 10, none⟩ = false := frozen_blk k2 10
      go_wp2_with fail
      have hF7 : Fr [] w (((((((((((w2.setCell ⟨b4, 0, none⟩ (.int .i64 0)).setCell ⟨b4, 1, none⟩ (.int .i64 0)).setCell ⟨b4, 2, none⟩ (.int .i64 0)).setCell ⟨b4, 3, none⟩ (.int .i64 0)).setCell ⟨b4, 4, none⟩ (.int .i64 0)).setCell ⟨b4, 5, none⟩ (.int .i64 0)).setCell ⟨b4, 6, none⟩ (.int .i64 0)).setCell ⟨b4, 7, none⟩ (.int .i64 0)).setCell ⟨b4, 8, none⟩ (.int .i64 0)).setCell ⟨b4, 9, none⟩ (.int .i64 0)).setCell ⟨b4, 10, none⟩ (.slice none 0 0)) := by
        iterate 11 refine Fr.setCell ?_ (.inr (by simp; omega)) _
        exact hFr2
      have z4 : (((((((((((w2.setCell ⟨b4, 0, none⟩ (.int .i64 0)).setCell ⟨b4, 1, none⟩ (.int .i64 0)).setCell ⟨b4, 2, none⟩ (.int .i64 0)).setCell ⟨b4, 3, none⟩ (.int .i64 0)).setCell ⟨b4, 4, none⟩ (.int .i64 0)).setCell ⟨b4, 5, none⟩ (.int .i64 0)).setCell ⟨b4, 6, none⟩ (.int .i64 0)).setCell ⟨b4, 7, none⟩ (.int .i64 0)).setCell ⟨b4, 8, none⟩ (.int .i64 0)).setCell ⟨b4, 9, none⟩ (.int .i64 0)).setCell ⟨b4, 10, none⟩ (.slice none 0 0)).heap[b4]? = some (.cells (frArr 0 0 (fun _ => 0) (.slice none 0 0)) 143) := set11_blk k2
      generalize (((((((((((w2.setCell ⟨b4, 0, none⟩ (.int .i64 0)).setCell ⟨b4, 1, none⟩ (.int .i64 0)).setCell ⟨b4, 2, none⟩ (.int .i64 0)).setCell ⟨b4, 3, none⟩ (.int .i64 0)).setCell ⟨b4, 4, none⟩ (.int .i64 0)).setCell ⟨b4, 5, none⟩ (.int .i64 0)).setCell ⟨b4, 6, none⟩ (.int .i64 0)).setCell ⟨b4, 7, none⟩ (.int .i64 0)).setCell ⟨b4, 8, none⟩ (.int .i64 0)).setCell ⟨b4, 9, none⟩ (.int .i64 0)).setCell ⟨b4, 10, none⟩ (.slice none 0 0)) = w7 at hF7 z4 ⊢
      clear d0 f0 d1 f1 d2 f2 d3 f3 d4 f4 d5 f5 d6 f6 d7 f7 d8 f8 d9 f9 d10 f10
      unfold frArr at z4
      have d0 : w7.cell? ⟨b4, 0, none⟩ = some (.int .i64 0) := cell_blk z4 0
      have d1 : w7.cell? ⟨b4, 1, none⟩ = some (.int .i64 0) := cell_blk z4 1
      have d2 : w7.cell? ⟨b4, 2, none⟩ = some (.int .i64 0) := cell_blk z4 2
      have d3 : w7.cell? ⟨b4, 3, none⟩ = some (.int .i64 0) := cell_blk z4 3
      have d4 : w7.cell? ⟨b4, 4, none⟩ = some (.int .i64 0) := cell_blk z4 4
      have d5 : w7.cell? ⟨b4, 5, none⟩ = some (.int .i64 0) := cell_blk z4 5
      have d6 : w7.cell? ⟨b4, 6, none⟩ = some (.int .i64 0) := cell_blk z4 6
      have d7 : w7.cell? ⟨b4, 7, none⟩ = some (.int .i64 0) := cell_blk z4 7
      have d8 : w7.cell? ⟨b4, 8, none⟩ = some (.int .i64 0) := cell_blk z4 8
      have d9 : w7.cell? ⟨b4, 9, none⟩ = some (.int .i64 0) := cell_blk z4 9
      have d10 : w7.cell? ⟨b4, 10, none⟩ = some (.slice none 0 0) := cell_blk z4 10
      exact bodyPost_ret (v := .tuple #[.agg (frArr 0 0 (fun _ => 0) (.slice none 0 0)), .bool false]) (by simp [results, Tryz.results87, go_sem, frArr, d0, d1, d2, d3, d4, d5, d6, d7, d8, d9, d10]) rfl ⟨hF7.toGrown, .inl ⟨rfl, HN.out⟩⟩
    | cons hd L =>
      have hlL : L.length ≤ 1000 := by simp at hml; omega
      have hD120 : D.length ≤ 120 := by rw [HD0.out, seal_len]; omega
      have hdr : ∀ w, (Instr.slice 9 (str (hd :: L)) (some (.int .i64 1)) none none).run Tryz.prog w = .ok (str L) w := fun w => str_drop (hd :: L) 1 (by simp) w
      have hix : ∀ w, (Instr.index 9 (str (hd :: L)) (.int .i64 0)).run Tryz.prog w = .ok (.int .u8 (hd.toNat : Int)) w := fun w => sindex (hd :: L) 0 hd rfl w
      have hne : ((hd :: L) == ([] : List UInt8)) = false := rfl
      have hhd : ∀ k : UInt8, (hd.toNat : Int) = (k.toNat : Int) → hd = k := fun k e => UInt8.toNat_inj.1 (by omega)
      have HHD := hide hhd
      clear hhd
      obtain ⟨hn, hhn⟩ : ∃ x : Int, x = (hd.toNat : Int) := ⟨_, rfl⟩
      rw [← hhn] at hix HHD
      generalize hM : hd :: L = M at hdr hix hne HBK HD0 hml ⊢
      have HM := hide hM
      have HH := hide hhn
      clear hM hhn HOK
      go_upto_region 6 with fail
      have g3 : w2.grownBy ((w2.alloc (.cells #[.int .i64 n, str L, .bool false] 193)).alloc (.cells #[.int .i64 0, .int .i64 0, .int .i64 0, .int .i64 0, .int .i64 0, .int .i64 0, .int .i64 0, .int .i64 0, .int .i64 0, .int .i64 0, .slice none 0 0] 143)) none := grown_alloc (grown_alloc (grown_refl _) _) _
      have k8 : ((w2.alloc (.cells #[.int .i64 n, str L, .bool false] 193)).alloc (.cells #[.int .i64 0, .int .i64 0, .int .i64 0, .int .i64 0, .int .i64 0, .int .i64 0, .int .i64 0, .int .i64 0, .int .i64 0, .int .i64 0, .slice none 0 0] 143)).heap[w2.heap.size]? = some (.cells #[.int .i64 n, str L, .bool false] 193) := by simp only [heap_alloc_at, World.size_alloc]; simp
      have k9 : ((w2.alloc (.cells #[.int .i64 n, str L, .bool false] 193)).alloc (.cells #[.int .i64 0, .int .i64 0, .int .i64 0, .int .i64 0, .int .i64 0, .int .i64 0, .int .i64 0, .int .i64 0, .int .i64 0, .int .i64 0, .slice none 0 0] 143)).heap[w2.heap.size + 1]? = some (.cells #[.int .i64 0, .int .i64 0, .int .i64 0, .int .i64 0, .int .i64 0, .int .i64 0, .int .i64 0, .int .i64 0, .int .i64 0, .int .i64 0, .slice none 0 0] 143) := by simp only [heap_alloc_at, World.size_alloc]; simp
      generalize ((w2.alloc (.cells #[.int .i64 n, str L, .bool false] 193)).alloc (.cells #[.int .i64 0, .int .i64 0, .int .i64 0, .int .i64 0, .int .i64 0, .int .i64 0, .int .i64 0, .int .i64 0, .int .i64 0, .int .i64 0, .slice none 0 0] 143)) = w3 at g3 k8 k9 ⊢
      have k43 := (g3.block _ hlt2 (by simp)).trans k2
      have gA := grown_trans gB g3
      have hb8 : b4 < w2.heap.size := hlt2
      generalize w2.heap.size = rb at k8 k9 hb8 ⊢
      have hrl3 : rb + 1 < w3.heap.size := lt_of_heap k9
      clear k2 gB g3 hlt2
      by_cases h68 : hn = 68
      · subst h68
        have hd68 : hd = 68 := HHD.out 68 rfl
        have HM2 : Hid (M = 68 :: L) := hide (by rw [← HM.out, hd68])
        clear HM hd68 HHD HH
        have HD2 := hide (digestP rb n h1 h8 L false hlL w3 k8)
        clear k8
        go_wp2_with fail
        refine HD2.out.mono ?_
        rintro e w5 ⟨s, qq, L', bad', rfl, hR5, hF5, hdc, -⟩
        unfold frArr
        have k95 := hF5.blk k9 (by simp)
        have k45 := hF5.blk k43 (by simp; omega)
        have hFA : Fr [] w w5 := (Fr.ofGrown gA).after hF5 (fun x hx => .inr (by simp at hx; omega))
        have HDC := hide hdc
        clear hdc HD2 k9 k43 hF5 gA
        have d0 : w5.cell? ⟨rb + 1, 0, none⟩ = some (.int .i64 0) := cell_blk k95 0
        have f0 : w5.frozen? ⟨rb + 1, 0, none⟩ = false := frozen_blk k95 0
        have d1 : w5.cell? ⟨rb + 1, 1, none⟩ = some (.int .i64 0) := cell_blk k95 1
        have f1 : w5.frozen? ⟨rb + 1, 1, none⟩ = false := frozen_blk k95 1
        have d2 : w5.cell? ⟨rb + 1, 2, none⟩ = some (.int .i64 0) := cell_blk k95 2
        have f2 : w5.frozen? ⟨rb + 1, 2, none⟩ = false := frozen_blk k95 2
        have d3 : w5.cell? ⟨rb + 1, 3, none⟩ = some (.int .i64 0) := cell_blk k95 3
        have f3 : w5.frozen? ⟨rb + 1, 3, none⟩ = false := frozen_blk k95 3
        have d4 : w5.cell? ⟨rb + 1, 4, none⟩ = some (.int .i64 0) := cell_blk k95 4
        have f4 : w5.frozen? ⟨rb + 1, 4, none⟩ = false := frozen_blk k95 4
        have d5 : w5.cell? ⟨rb + 1, 5, none⟩ = some (.int .i64 0) := cell_blk k95 5
        have f5 : w5.frozen? ⟨rb + 1, 5, none⟩ = false := frozen_blk k95 5
        have d6 : w5.cell? ⟨rb + 1, 6, none⟩ = some (.int .i64 0) := cell_blk k95 6
        have f6 : w5.frozen? ⟨rb + 1, 6, none⟩ = false := frozen_blk k95 6
        have d7 : w5.cell? ⟨rb + 1, 7, none⟩ = some (.int .i64 0) := cell_blk k95 7
        have f7 : w5.frozen? ⟨rb + 1, 7, none⟩ = false := frozen_blk k95 7
        have d8 : w5.cell? ⟨rb + 1, 8, none⟩ = some (.int .i64 0) := cell_blk k95 8
        have f8 : w5.frozen? ⟨rb + 1, 8, none⟩ = false := frozen_blk k95 8
        have d9 : w5.cell? ⟨rb + 1, 9, none⟩ = some (.int .i64 0) := cell_blk k95 9
        have f9 : w5.frozen? ⟨rb + 1, 9, none⟩ = false := frozen_blk k95 9
        have d10 : w5.cell? ⟨rb + 1, 10, none⟩ = some (.slice none 0 0) := cell_blk k95 10
        have f10 : w5.frozen? ⟨rb + 1, 10, none⟩ = false := frozen_blk k95 10
        go_upto_region 12 with fail
        have hF6 : Fr [] w (((((((((((w5.setCell ⟨rb + 1, 0, none⟩ (.int .i64 0)).setCell ⟨rb + 1, 1, none⟩ (.int .i64 s)).setCell ⟨rb + 1, 2, none⟩ (.int .i64 (qq 0))).setCell ⟨rb + 1, 3, none⟩ (.int .i64 (qq 1))).setCell ⟨rb + 1, 4, none⟩ (.int .i64 (qq 2))).setCell ⟨rb + 1, 5, none⟩ (.int .i64 (qq 3))).setCell ⟨rb + 1, 6, none⟩ (.int .i64 (qq 4))).setCell ⟨rb + 1, 7, none⟩ (.int .i64 (qq 5))).setCell ⟨rb + 1, 8, none⟩ (.int .i64 (qq 6))).setCell ⟨rb + 1, 9, none⟩ (.int .i64 (qq 7))).setCell ⟨rb + 1, 10, none⟩ (.slice none 0 0)) := by
          iterate 11 refine Fr.setCell ?_ (.inr (by simp; omega)) _
          exact hFA
        have q1 : (((((((((((w5.setCell ⟨rb + 1, 0, none⟩ (.int .i64 0)).setCell ⟨rb + 1, 1, none⟩ (.int .i64 s)).setCell ⟨rb + 1, 2, none⟩ (.int .i64 (qq 0))).setCell ⟨rb + 1, 3, none⟩ (.int .i64 (qq 1))).setCell ⟨rb + 1, 4, none⟩ (.int .i64 (qq 2))).setCell ⟨rb + 1, 5, none⟩ (.int .i64 (qq 3))).setCell ⟨rb + 1, 6, none⟩ (.int .i64 (qq 4))).setCell ⟨rb + 1, 7, none⟩ (.int .i64 (qq 5))).setCell ⟨rb + 1, 8, none⟩ (.int .i64 (qq 6))).setCell ⟨rb + 1, 9, none⟩ (.int .i64 (qq 7))).setCell ⟨rb + 1, 10, none⟩ (.slice none 0 0)).heap[rb]? = some (.cells #[.int .i64 n, str L', .bool bad'] 193) := by
          iterate 11 rw [Below.heap_setCell _ _ _ _ (by simp)]
          exact hR5
        have q4 : (((((((((((w5.setCell ⟨rb + 1, 0, none⟩ (.int .i64 0)).setCell ⟨rb + 1, 1, none⟩ (.int .i64 s)).setCell ⟨rb + 1, 2, none⟩ (.int .i64 (qq 0))).setCell ⟨rb + 1, 3, none⟩ (.int .i64 (qq 1))).setCell ⟨rb + 1, 4, none⟩ (.int .i64 (qq 2))).setCell ⟨rb + 1, 5, none⟩ (.int .i64 (qq 3))).setCell ⟨rb + 1, 6, none⟩ (.int .i64 (qq 4))).setCell ⟨rb + 1, 7, none⟩ (.int .i64 (qq 5))).setCell ⟨rb + 1, 8, none⟩ (.int .i64 (qq 6))).setCell ⟨rb + 1, 9, none⟩ (.int .i64 (qq 7))).setCell ⟨rb + 1, 10, none⟩ (.slice none 0 0)).heap[b4]? = some (.cells #[.int .i64 0, .int .i64 0, .int .i64 0, .int .i64 0, .int .i64 0, .int .i64 0, .int .i64 0, .int .i64 0, .int .i64 0, .int .i64 0, .slice none 0 0] 143) := by
          iterate 11 rw [Below.heap_setCell _ _ _ _ (by simp; omega)]
          exact k45
        have q9 : (((((((((((w5.setCell ⟨rb + 1, 0, none⟩ (.int .i64 0)).setCell ⟨rb + 1, 1, none⟩ (.int .i64 s)).setCell ⟨rb + 1, 2, none⟩ (.int .i64 (qq 0))).setCell ⟨rb + 1, 3, none⟩ (.int .i64 (qq 1))).setCell ⟨rb + 1, 4, none⟩ (.int .i64 (qq 2))).setCell ⟨rb + 1, 5, none⟩ (.int .i64 (qq 3))).setCell ⟨rb + 1, 6, none⟩ (.int .i64 (qq 4))).setCell ⟨rb + 1, 7, none⟩ (.int .i64 (qq 5))).setCell ⟨rb + 1, 8, none⟩ (.int .i64 (qq 6))).setCell ⟨rb + 1, 9, none⟩ (.int .i64 (qq 7))).setCell ⟨rb + 1, 10, none⟩ (.slice none 0 0)).heap[rb + 1]? = some (.cells #[.int .i64 0, .int .i64 s, .int .i64 (qq 0), .int .i64 (qq 1), .int .i64 (qq 2), .int .i64 (qq 3), .int .i64 (qq 4), .int .i64 (qq 5), .int .i64 (qq 6), .int .i64 (qq 7), .slice none 0 0] 143) := set11_blk k95
        generalize (((((((((((w5.setCell ⟨rb + 1, 0, none⟩ (.int .i64 0)).setCell ⟨rb + 1, 1, none⟩ (.int .i64 s)).setCell ⟨rb + 1, 2, none⟩ (.int .i64 (qq 0))).setCell ⟨rb + 1, 3, none⟩ (.int .i64 (qq 1))).setCell ⟨rb + 1, 4, none⟩ (.int .i64 (qq 2))).setCell ⟨rb + 1, 5, none⟩ (.int .i64 (qq 3))).setCell ⟨rb + 1, 6, none⟩ (.int .i64 (qq 4))).setCell ⟨rb + 1, 7, none⟩ (.int .i64 (qq 5))).setCell ⟨rb + 1, 8, none⟩ (.int .i64 (qq 6))).setCell ⟨rb + 1, 9, none⟩ (.int .i64 (qq 7))).setCell ⟨rb + 1, 10, none⟩ (.slice none 0 0)) = w6 at hF6 q1 q4 q9 ⊢
        clear d0 f0 d1 f1 d2 f2 d3 f3 d4 f4 d5 f5 d6 f6 d7 f7 d8 f8 d9 f9 d10 f10
        have r1 : w6.cell? ⟨rb, 1, none⟩ = some (str L') := cell_blk q1 1
        have r2 : w6.cell? ⟨rb, 2, none⟩ = some (.bool bad') := cell_blk q1 2
        clear k95 k45 hFA
        cases bad' with
        | true =>
          have HN := hide (noFr (n := n) HBK.out (fun d hd e => by
            rw [HM2.out] at e
            obtain ⟨z1, -, z3⟩ := HDC.out.2 rfl d [] hd (by simpa using e)
            cases z1) (fun l hl e => by rw [HM2.out] at e; simp at e))
          have d0 : w6.cell? ⟨b4, 0, none⟩ = some (.int .i64 0) := cell_blk q4 0
          have f0 : w6.frozen? ⟨b4, 0, none⟩ = false := frozen_blk q4 0
          have d1 : w6.cell? ⟨b4, 1, none⟩ = some (.int .i64 0) := cell_blk q4 1
          have f1 : w6.frozen? ⟨b4, 1, none⟩ = false := frozen_blk q4 1
          have d2 : w6.cell? ⟨b4, 2, none⟩ = some (.int .i64 0) := cell_blk q4 2
          have f2 : w6.frozen? ⟨b4, 2, none⟩ = false := frozen_blk q4 2
          have d3 : w6.cell? ⟨b4, 3, none⟩ = some (.int .i64 0) := cell_blk q4 3
          have f3 : w6.frozen? ⟨b4, 3, none⟩ = false := frozen_blk q4 3
          have d4 : w6.cell? ⟨b4, 4, none⟩ = some (.int .i64 0) := cell_blk q4 4
          have f4 : w6.frozen? ⟨b4, 4, none⟩ = false := frozen_blk q4 4
          have d5 : w6.cell? ⟨b4, 5, none⟩ = some (.int .i64 0) := cell_blk q4 5
          have f5 : w6.frozen? ⟨b4, 5, none⟩ = false := frozen_blk q4 5
          have d6 : w6.cell? ⟨b4, 6, none⟩ = some (.int .i64 0) := cell_blk q4 6
          have f6 : w6.frozen? ⟨b4, 6, none⟩ = false := frozen_blk q4 6
          have d7 : w6.cell? ⟨b4, 7, none⟩ = some (.int .i64 0) := cell_blk q4 7
          have f7 : w6.frozen? ⟨b4, 7, none⟩ = false := frozen_blk q4 7
          have d8 : w6.cell? ⟨b4, 8, none⟩ = some (.int .i64 0) := cell_blk q4 8
          have f8 : w6.frozen? ⟨b4, 8, none⟩ = false := frozen_blk q4 8
          have d9 : w6.cell? ⟨b4, 9, none⟩ = some (.int .i64 0) := cell_blk q4 9
          have f9 : w6.frozen? ⟨b4, 9, none⟩ = false := frozen_blk q4 9
          have d10 : w6.cell? ⟨b4, 10, none⟩ = some (.slice none 0 0) := cell_blk q4 10
          have f10 : w6.frozen? ⟨b4, 10, none⟩ = false := frozen_blk q4 10
          go_wp2_with fail
          have hF7 : Fr [] w (((((((((((w6.setCell ⟨b4, 0, none⟩ (.int .i64 0)).setCell ⟨b4, 1, none⟩ (.int .i64 0)).setCell ⟨b4, 2, none⟩ (.int .i64 0)).setCell ⟨b4, 3, none⟩ (.int .i64 0)).setCell ⟨b4, 4, none⟩ (.int .i64 0)).setCell ⟨b4, 5, none⟩ (.int .i64 0)).setCell ⟨b4, 6, none⟩ (.int .i64 0)).setCell ⟨b4, 7, none⟩ (.int .i64 0)).setCell ⟨b4, 8, none⟩ (.int .i64 0)).setCell ⟨b4, 9, none⟩ (.int .i64 0)).setCell ⟨b4, 10, none⟩ (.slice none 0 0)) := by
            iterate 11 refine Fr.setCell ?_ (.inr (by simp; omega)) _
            exact hF6
          have z4 : (((((((((((w6.setCell ⟨b4, 0, none⟩ (.int .i64 0)).setCell ⟨b4, 1, none⟩ (.int .i64 0)).setCell ⟨b4, 2, none⟩ (.int .i64 0)).setCell ⟨b4, 3, none⟩ (.int .i64 0)).setCell ⟨b4, 4, none⟩ (.int .i64 0)).setCell ⟨b4, 5, none⟩ (.int .i64 0)).setCell ⟨b4, 6, none⟩ (.int .i64 0)).setCell ⟨b4, 7, none⟩ (.int .i64 0)).setCell ⟨b4, 8, none⟩ (.int .i64 0)).setCell ⟨b4, 9, none⟩ (.int .i64 0)).setCell ⟨b4, 10, none⟩ (.slice none 0 0)).heap[b4]? = some (.cells (frArr 0 0 (fun _ => 0) (.slice none 0 0)) 143) := set11_blk q4
          generalize (((((((((((w6.setCell ⟨b4, 0, none⟩ (.int .i64 0)).setCell ⟨b4, 1, none⟩ (.int .i64 0)).setCell ⟨b4, 2, none⟩ (.int .i64 0)).setCell ⟨b4, 3, none⟩ (.int .i64 0)).setCell ⟨b4, 4, none⟩ (.int .i64 0)).setCell ⟨b4, 5, none⟩ (.int .i64 0)).setCell ⟨b4, 6, none⟩ (.int .i64 0)).setCell ⟨b4, 7, none⟩ (.int .i64 0)).setCell ⟨b4, 8, none⟩ (.int .i64 0)).setCell ⟨b4, 9, none⟩ (.int .i64 0)).setCell ⟨b4, 10, none⟩ (.slice none 0 0)) = w7 at hF7 z4 ⊢
          clear d0 f0 d1 f1 d2 f2 d3 f3 d4 f4 d5 f5 d6 f6 d7 f7 d8 f8 d9 f9 d10 f10
          unfold frArr at z4
          have d0 : w7.cell? ⟨b4, 0, none⟩ = some (.int .i64 0) := cell_blk z4 0
          have d1 : w7.cell? ⟨b4, 1, none⟩ = some (.int .i64 0) := cell_blk z4 1
          have d2 : w7.cell? ⟨b4, 2, none⟩ = some (.int .i64 0) := cell_blk z4 2
          have d3 : w7.cell? ⟨b4, 3, none⟩ = some (.int .i64 0) := cell_blk z4 3
          have d4 : w7.cell? ⟨b4, 4, none⟩ = some (.int .i64 0) := cell_blk z4 4
          have d5 : w7.cell? ⟨b4, 5, none⟩ = some (.int .i64 0) := cell_blk z4 5
          have d6 : w7.cell? ⟨b4, 6, none⟩ = some (.int .i64 0) := cell_blk z4 6
          have d7 : w7.cell? ⟨b4, 7, none⟩ = some (.int .i64 0) := cell_blk z4 7
          have d8 : w7.cell? ⟨b4, 8, none⟩ = some (.int .i64 0) := cell_blk z4 8
          have d9 : w7.cell? ⟨b4, 9, none⟩ = some (.int .i64 0) := cell_blk z4 9
          have d10 : w7.cell? ⟨b4, 10, none⟩ = some (.slice none 0 0) := cell_blk z4 10
          exact bodyPost_ret (v := .tuple #[.agg (frArr 0 0 (fun _ => 0) (.slice none 0 0)), .bool false]) (by simp [results, Tryz.results87, go_sem, frArr, d0, d1, d2, d3, d4, d5, d6, d7, d8, d9, d10]) rfl ⟨hF7.toGrown, .inl ⟨rfl, HN.out⟩⟩
        | false =>
          cases L' with
          | cons a t =>
            have hnb : ((a :: t) == ([] : List UInt8)) = false := rfl
            have HN := hide (noFr (n := n) HBK.out (fun d hd e => by
              rw [HM2.out] at e
              obtain ⟨z1, -, z3⟩ := HDC.out.2 rfl d [] hd (by simpa using e)
              cases z3) (fun l hl e => by rw [HM2.out] at e; simp at e))
            generalize a :: t = AT at r1 hnb
            have d0 : w6.cell? ⟨b4, 0, none⟩ = some (.int .i64 0) := cell_blk q4 0
            have f0 : w6.frozen? ⟨b4, 0, none⟩ = false := frozen_blk q4 0
            have d1 : w6.cell? ⟨b4, 1, none⟩ = some (.int .i64 0) := cell_blk q4 1
            have f1 : w6.frozen? ⟨b4, 1, none⟩ = false := frozen_blk q4 1
            have d2 : w6.cell? ⟨b4, 2, none⟩ = some (.int .i64 0) := cell_blk q4 2
            have f2 : w6.frozen? ⟨b4, 2, none⟩ = false := frozen_blk q4 2
            have d3 : w6.cell? ⟨b4, 3, none⟩ = some (.int .i64 0) := cell_blk q4 3
            have f3 : w6.frozen? ⟨b4, 3, none⟩ = false := frozen_blk q4 3
            have d4 : w6.cell? ⟨b4, 4, none⟩ = some (.int .i64 0) := cell_blk q4 4
            have f4 : w6.frozen? ⟨b4, 4, none⟩ = false := frozen_blk q4 4
            have d5 : w6.cell? ⟨b4, 5, none⟩ = some (.int .i64 0) := cell_blk q4 5
            have f5 : w6.frozen? ⟨b4, 5, none⟩ = false := frozen_blk q4 5
            have d6 : w6.cell? ⟨b4, 6, none⟩ = some (.int .i64 0) := cell_blk q4 6
            have f6 : w6.frozen? ⟨b4, 6, none⟩ = false := frozen_blk q4 6
            have d7 : w6.cell? ⟨b4, 7, none⟩ = some (.int .i64 0) := cell_blk q4 7
            have f7 : w6.frozen? ⟨b4, 7, none⟩ = false := frozen_blk q4 7
            have d8 : w6.cell? ⟨b4, 8, none⟩ = some (.int .i64 0) := cell_blk q4 8
            have f8 : w6.frozen? ⟨b4, 8, none⟩ = false := frozen_blk q4 8
            have d9 : w6.cell? ⟨b4, 9, none⟩ = some (.int .i64 0) := cell_blk q4 9
            have f9 : w6.frozen? ⟨b4, 9, none⟩ = false := frozen_blk q4 9
            have d10 : w6.cell? ⟨b4, 10, none⟩ = some (.slice none 0 0) := cell_blk q4 10
            have f10 : w6.frozen? ⟨b4, 10, none⟩ = false := frozen_blk q4 10
            go_wp2_with fail
            have hF7 : Fr [] w (((((((((((w6.setCell ⟨b4, 0, none⟩ (.int .i64 0)).setCell ⟨b4, 1, none⟩ (.int .i64 0)).setCell ⟨b4, 2, none⟩ (.int .i64 0)).setCell ⟨b4, 3, none⟩ (.int .i64 0)).setCell ⟨b4, 4, none⟩ (.int .i64 0)).setCell ⟨b4, 5, none⟩ (.int .i64 0)).setCell ⟨b4, 6, none⟩ (.int .i64 0)).setCell ⟨b4, 7, none⟩ (.int .i64 0)).setCell ⟨b4, 8, none⟩ (.int .i64 0)).setCell ⟨b4, 9, none⟩ (.int .i64 0)).setCell ⟨b4, 10, none⟩ (.slice none 0 0)) := by
              iterate 11 refine Fr.setCell ?_ (.inr (by simp; omega)) _
              exact hF6
            have z4 : (((((((((((w6.setCell ⟨b4, 0, none⟩ (.int .i64 0)).setCell ⟨b4, 1, none⟩ (.int .i64 0)).setCell ⟨b4, 2, none⟩ (.int .i64 0)).setCell ⟨b4, 3, none⟩ (.int .i64 0)).setCell ⟨b4, 4, none⟩ (.int .i64 0)).setCell ⟨b4, 5, none⟩ (.int .i64 0)).setCell ⟨b4, 6, none⟩ (.int .i64 0)).setCell ⟨b4, 7, none⟩ (.int .i64 0)).setCell ⟨b4, 8, none⟩ (.int .i64 0)).setCell ⟨b4, 9, none⟩ (.int .i64 0)).setCell ⟨b4, 10, none⟩ (.slice none 0 0)).heap[b4]? = some (.cells (frArr 0 0 (fun _ => 0) (.slice none 0 0)) 143) := set11_blk q4
            generalize (((((((((((w6.setCell ⟨b4, 0, none⟩ (.int .i64 0)).setCell ⟨b4, 1, none⟩ (.int .i64 0)).setCell ⟨b4, 2, none⟩ (.int .i64 0)).setCell ⟨b4, 3, none⟩ (.int .i64 0)).setCell ⟨b4, 4, none⟩ (.int .i64 0)).setCell ⟨b4, 5, none⟩ (.int .i64 0)).setCell ⟨b4, 6, none⟩ (.int .i64 0)).setCell ⟨b4, 7, none⟩ (.int .i64 0)).setCell ⟨b4, 8, none⟩ (.int .i64 0)).setCell ⟨b4, 9, none⟩ (.int .i64 0)).setCell ⟨b4, 10, none⟩ (.slice none 0 0)) = w7 at hF7 z4 ⊢
            clear d0 f0 d1 f1 d2 f2 d3 f3 d4 f4 d5 f5 d6 f6 d7 f7 d8 f8 d9 f9 d10 f10
            unfold frArr at z4
            have d0 : w7.cell? ⟨b4, 0, none⟩ = some (.int .i64 0) := cell_blk z4 0
            have d1 : w7.cell? ⟨b4, 1, none⟩ = some (.int .i64 0) := cell_blk z4 1
            have d2 : w7.cell? ⟨b4, 2, none⟩ = some (.int .i64 0) := cell_blk z4 2
            have d3 : w7.cell? ⟨b4, 3, none⟩ = some (.int .i64 0) := cell_blk z4 3
            have d4 : w7.cell? ⟨b4, 4, none⟩ = some (.int .i64 0) := cell_blk z4 4
            have d5 : w7.cell? ⟨b4, 5, none⟩ = some (.int .i64 0) := cell_blk z4 5
            have d6 : w7.cell? ⟨b4, 6, none⟩ = some (.int .i64 0) := cell_blk z4 6
            have d7 : w7.cell? ⟨b4, 7, none⟩ = some (.int .i64 0) := cell_blk z4 7
            have d8 : w7.cell? ⟨b4, 8, none⟩ = some (.int .i64 0) := cell_blk z4 8
            have d9 : w7.cell? ⟨b4, 9, none⟩ = some (.int .i64 0) := cell_blk z4 9
            have d10 : w7.cell? ⟨b4, 10, none⟩ = some (.slice none 0 0) := cell_blk z4 10
            exact bodyPost_ret (v := .tuple #[.agg (frArr 0 0 (fun _ => 0) (.slice none 0 0)), .bool false]) (by simp [results, Tryz.results87, go_sem, frArr, d0, d1, d2, d3, d4, d5, d6, d7, d8, d9, d10]) rfl ⟨hF7.toGrown, .inl ⟨rfl, HN.out⟩⟩
          | nil =>
            have hnb : (([] : List UInt8) == ([] : List UInt8)) = true := rfl
            have c0 : w6.cell? ⟨rb + 1, 0, none⟩ = some (.int .i64 0) := cell_blk q9 0
            have c1 : w6.cell? ⟨rb + 1, 1, none⟩ = some (.int .i64 s) := cell_blk q9 1
            have c2 : w6.cell? ⟨rb + 1, 2, none⟩ = some (.int .i64 (qq 0)) := cell_blk q9 2
            have c3 : w6.cell? ⟨rb + 1, 3, none⟩ = some (.int .i64 (qq 1)) := cell_blk q9 3
            have c4 : w6.cell? ⟨rb + 1, 4, none⟩ = some (.int .i64 (qq 2)) := cell_blk q9 4
            have c5 : w6.cell? ⟨rb + 1, 5, none⟩ = some (.int .i64 (qq 3)) := cell_blk q9 5
            have c6 : w6.cell? ⟨rb + 1, 6, none⟩ = some (.int .i64 (qq 4)) := cell_blk q9 6
            have c7 : w6.cell? ⟨rb + 1, 7, none⟩ = some (.int .i64 (qq 5)) := cell_blk q9 7
            have c8 : w6.cell? ⟨rb + 1, 8, none⟩ = some (.int .i64 (qq 6)) := cell_blk q9 8
            have c9 : w6.cell? ⟨rb + 1, 9, none⟩ = some (.int .i64 (qq 7)) := cell_blk q9 9
            have c10 : w6.cell? ⟨rb + 1, 10, none⟩ = some (.slice none 0 0) := cell_blk q9 10
            have d0 : w6.cell? ⟨b4, 0, none⟩ = some (.int .i64 0) := cell_blk q4 0
            have f0 : w6.frozen? ⟨b4, 0, none⟩ = false := frozen_blk q4 0
            have d1 : w6.cell? ⟨b4, 1, none⟩ = some (.int .i64 0) := cell_blk q4 1
            have f1 : w6.frozen? ⟨b4, 1, none⟩ = false := frozen_blk q4 1
            have d2 : w6.cell? ⟨b4, 2, none⟩ = some (.int .i64 0) := cell_blk q4 2
            have f2 : w6.frozen? ⟨b4, 2, none⟩ = false := frozen_blk q4 2
            have d3 : w6.cell? ⟨b4, 3, none⟩ = some (.int .i64 0) := cell_blk q4 3
            have f3 : w6.frozen? ⟨b4, 3, none⟩ = false := frozen_blk q4 3
            have d4 : w6.cell? ⟨b4, 4, none⟩ = some (.int .i64 0) := cell_blk q4 4
            have f4 : w6.frozen? ⟨b4, 4, none⟩ = false := frozen_blk q4 4
            have d5 : w6.cell? ⟨b4, 5, none⟩ = some (.int .i64 0) := cell_blk q4 5
            have f5 : w6.frozen? ⟨b4, 5, none⟩ = false := frozen_blk q4 5
            have d6 : w6.cell? ⟨b4, 6, none⟩ = some (.int .i64 0) := cell_blk q4 6
            have f6 : w6.frozen? ⟨b4, 6, none⟩ = false := frozen_blk q4 6
            have d7 : w6.cell? ⟨b4, 7, none⟩ = some (.int .i64 0) := cell_blk q4 7
            have f7 : w6.frozen? ⟨b4, 7, none⟩ = false := frozen_blk q4 7
            have d8 : w6.cell? ⟨b4, 8, none⟩ = some (.int .i64 0) := cell_blk q4 8
            have f8 : w6.frozen? ⟨b4, 8, none⟩ = false := frozen_blk q4 8
            have d9 : w6.cell? ⟨b4, 9, none⟩ = some (.int .i64 0) := cell_blk q4 9
            have f9 : w6.frozen? ⟨b4, 9, none⟩ = false := frozen_blk q4 9
            have d10 : w6.cell? ⟨b4, 10, none⟩ = some (.slice none 0 0) := cell_blk q4 10
            have f10 : w6.frozen? ⟨b4, 10, none⟩ = false := frozen_blk q4 10
            go_wp2_with fail
            have hF7 : Fr [] w (((((((((((w6.setCell ⟨b4, 0, none⟩ (.int .i64 0)).setCell ⟨b4, 1, none⟩ (.int .i64 s)).setCell ⟨b4, 2, none⟩ (.int .i64 (qq 0))).setCell ⟨b4, 3, none⟩ (.int .i64 (qq 1))).setCell ⟨b4, 4, none⟩ (.int .i64 (qq 2))).setCell ⟨b4, 5, none⟩ (.int .i64 (qq 3))).setCell ⟨b4, 6, none⟩ (.int .i64 (qq 4))).setCell ⟨b4, 7, none⟩ (.int .i64 (qq 5))).setCell ⟨b4, 8, none⟩ (.int .i64 (qq 6))).setCell ⟨b4, 9, none⟩ (.int .i64 (qq 7))).setCell ⟨b4, 10, none⟩ (.slice none 0 0)) := by
              iterate 11 refine Fr.setCell ?_ (.inr (by simp; omega)) _
              exact hF6
            have z4 : (((((((((((w6.setCell ⟨b4, 0, none⟩ (.int .i64 0)).setCell ⟨b4, 1, none⟩ (.int .i64 s)).setCell ⟨b4, 2, none⟩ (.int .i64 (qq 0))).setCell ⟨b4, 3, none⟩ (.int .i64 (qq 1))).setCell ⟨b4, 4, none⟩ (.int .i64 (qq 2))).setCell ⟨b4, 5, none⟩ (.int .i64 (qq 3))).setCell ⟨b4, 6, none⟩ (.int .i64 (qq 4))).setCell ⟨b4, 7, none⟩ (.int .i64 (qq 5))).setCell ⟨b4, 8, none⟩ (.int .i64 (qq 6))).setCell ⟨b4, 9, none⟩ (.int .i64 (qq 7))).setCell ⟨b4, 10, none⟩ (.slice none 0 0)).heap[b4]? = some (.cells #[.int .i64 0, .int .i64 s, .int .i64 (qq 0), .int .i64 (qq 1), .int .i64 (qq 2), .int .i64 (qq 3), .int .i64 (qq 4), .int .i64 (qq 5), .int .i64 (qq 6), .int .i64 (qq 7), .slice none 0 0] 143) := set11_blk q4
            generalize (((((((((((w6.setCell ⟨b4, 0, none⟩ (.int .i64 0)).setCell ⟨b4, 1, none⟩ (.int .i64 s)).setCell ⟨b4, 2, none⟩ (.int .i64 (qq 0))).setCell ⟨b4, 3, none⟩ (.int .i64 (qq 1))).setCell ⟨b4, 4, none⟩ (.int .i64 (qq 2))).setCell ⟨b4, 5, none⟩ (.int .i64 (qq 3))).setCell ⟨b4, 6, none⟩ (.int .i64 (qq 4))).setCell ⟨b4, 7, none⟩ (.int .i64 (qq 5))).setCell ⟨b4, 8, none⟩ (.int .i64 (qq 6))).setCell ⟨b4, 9, none⟩ (.int .i64 (qq 7))).setCell ⟨b4, 10, none⟩ (.slice none 0 0)) = w7 at hF7 z4 ⊢
            clear c0 d0 f0 c1 d1 f1 c2 d2 f2 c3 d3 f3 c4 d4 f4 c5 d5 f5 c6 d6 f6 c7 d7 f7 c8 d8 f8 c9 d9 f9 c10 d10 f10
            have d0 : w7.cell? ⟨b4, 0, none⟩ = some (.int .i64 0) := cell_blk z4 0
            have d1 : w7.cell? ⟨b4, 1, none⟩ = some (.int .i64 s) := cell_blk z4 1
            have d2 : w7.cell? ⟨b4, 2, none⟩ = some (.int .i64 (qq 0)) := cell_blk z4 2
            have d3 : w7.cell? ⟨b4, 3, none⟩ = some (.int .i64 (qq 1)) := cell_blk z4 3
            have d4 : w7.cell? ⟨b4, 4, none⟩ = some (.int .i64 (qq 2)) := cell_blk z4 4
            have d5 : w7.cell? ⟨b4, 5, none⟩ = some (.int .i64 (qq 3)) := cell_blk z4 5
            have d6 : w7.cell? ⟨b4, 6, none⟩ = some (.int .i64 (qq 4)) := cell_blk z4 6
            have d7 : w7.cell? ⟨b4, 7, none⟩ = some (.int .i64 (qq 5)) := cell_blk z4 7
            have d8 : w7.cell? ⟨b4, 8, none⟩ = some (.int .i64 (qq 6)) := cell_blk z4 8
            have d9 : w7.cell? ⟨b4, 9, none⟩ = some (.int .i64 (qq 7)) := cell_blk z4 9
            have d10 : w7.cell? ⟨b4, 10, none⟩ = some (.slice none 0 0) := cell_blk z4 10
            exact bodyPost_ret (v := .tuple #[.agg (frArr 0 s qq (.slice none 0 0)), .bool true]) (by simp [results, Tryz.results87, go_sem, frArr, d0, d1, d2, d3, d4, d5, d6, d7, d8, d9, d10]) rfl ⟨hF7.toGrown, .inr (.inl ⟨s, qq, (HDC.out.1 rfl).2.1, hD120, by rw [HD0.out, HM2.out, show L = dEnc n (s, qq) from by simpa using (HDC.out.1 rfl).2.2], rfl⟩)⟩
      · by_cases h66 : hn = 66
        · subst h66
          have hd66 : hd = 66 := HHD.out 66 rfl
          have HM2 : Hid (M = 66 :: L) := hide (by rw [← HM.out, hd66])
          clear HM hd66 HHD HH h68
          have HD2 := hide (batchP rb n h1 h8 L false hlL w3 k8)
          clear k8
          go_wp2_with fail
          refine HD2.out.mono ?_
          rintro e w5 ⟨l, v, L', bad', rfl, hv, hvn, hR5, hF5, hdc, -, -⟩
          obtain ⟨av, cv, rfl, -⟩ := hv.value
          generalize (opRow l).length = ln at hv hvn ⊢
          unfold frArr
          have k95 := hF5.blk k9 (by simp)
          have k45 := hF5.blk k43 (by simp; omega)
          have hFA : Fr [] w w5 := (Fr.ofGrown gA).after hF5 (fun x hx => .inr (by simp at hx; omega))
          have hs35 : w.heap.size ≤ w3.heap.size := gA.size
          have HDC := hide hdc
          clear hdc HD2 k9 k43 hF5 gA
          have d0 : w5.cell? ⟨rb + 1, 0, none⟩ = some (.int .i64 0) := cell_blk k95 0
          have f0 : w5.frozen? ⟨rb + 1, 0, none⟩ = false := frozen_blk k95 0
          have d1 : w5.cell? ⟨rb + 1, 1, none⟩ = some (.int .i64 0) := cell_blk k95 1
          have f1 : w5.frozen? ⟨rb + 1, 1, none⟩ = false := frozen_blk k95 1
          have d2 : w5.cell? ⟨rb + 1, 2, none⟩ = some (.int .i64 0) := cell_blk k95 2
          have f2 : w5.frozen? ⟨rb + 1, 2, none⟩ = false := frozen_blk k95 2
          have d3 : w5.cell? ⟨rb + 1, 3, none⟩ = some (.int .i64 0) := cell_blk k95 3
          have f3 : w5.frozen? ⟨rb + 1, 3, none⟩ = false := frozen_blk k95 3
          have d4 : w5.cell? ⟨rb + 1, 4, none⟩ = some (.int .i64 0) := cell_blk k95 4
          have f4 : w5.frozen? ⟨rb + 1, 4, none⟩ = false := frozen_blk k95 4
          have d5 : w5.cell? ⟨rb + 1, 5, none⟩ = some (.int .i64 0) := cell_blk k95 5
          have f5 : w5.frozen? ⟨rb + 1, 5, none⟩ = false := frozen_blk k95 5
          have d6 : w5.cell? ⟨rb + 1, 6, none⟩ = some (.int .i64 0) := cell_blk k95 6
          have f6 : w5.frozen? ⟨rb + 1, 6, none⟩ = false := frozen_blk k95 6
          have d7 : w5.cell? ⟨rb + 1, 7, none⟩ = some (.int .i64 0) := cell_blk k95 7
          have f7 : w5.frozen? ⟨rb + 1, 7, none⟩ = false := frozen_blk k95 7
          have d8 : w5.cell? ⟨rb + 1, 8, none⟩ = some (.int .i64 0) := cell_blk k95 8
          have f8 : w5.frozen? ⟨rb + 1, 8, none⟩ = false := frozen_blk k95 8
          have d9 : w5.cell? ⟨rb + 1, 9, none⟩ = some (.int .i64 0) := cell_blk k95 9
          have f9 : w5.frozen? ⟨rb + 1, 9, none⟩ = false := frozen_blk k95 9
          have d10 : w5.cell? ⟨rb + 1, 10, none⟩ = some (.slice none 0 0) := cell_blk k95 10
          have f10 : w5.frozen? ⟨rb + 1, 10, none⟩ = false := frozen_blk k95 10
          go_upto_region 12 with fail
          have hF6 : Fr [] w (((((((((((w5.setCell ⟨rb + 1, 0, none⟩ (.int .i64 1)).setCell ⟨rb + 1, 1, none⟩ (.int .i64 0)).setCell ⟨rb + 1, 2, none⟩ (.int .i64 0)).setCell ⟨rb + 1, 3, none⟩ (.int .i64 0)).setCell ⟨rb + 1, 4, none⟩ (.int .i64 0)).setCell ⟨rb + 1, 5, none⟩ (.int .i64 0)).setCell ⟨rb + 1, 6, none⟩ (.int .i64 0)).setCell ⟨rb + 1, 7, none⟩ (.int .i64 0)).setCell ⟨rb + 1, 8, none⟩ (.int .i64 0)).setCell ⟨rb + 1, 9, none⟩ (.int .i64 0)).setCell ⟨rb + 1, 10, none⟩ (.slice av ln cv)) := by
            iterate 11 refine Fr.setCell ?_ (.inr (by simp; omega)) _
            exact hFA
          have q1 : (((((((((((w5.setCell ⟨rb + 1, 0, none⟩ (.int .i64 1)).setCell ⟨rb + 1, 1, none⟩ (.int .i64 0)).setCell ⟨rb + 1, 2, none⟩ (.int .i64 0)).setCell ⟨rb + 1, 3, none⟩ (.int .i64 0)).setCell ⟨rb + 1, 4, none⟩ (.int .i64 0)).setCell ⟨rb + 1, 5, none⟩ (.int .i64 0)).setCell ⟨rb + 1, 6, none⟩ (.int .i64 0)).setCell ⟨rb + 1, 7, none⟩ (.int .i64 0)).setCell ⟨rb + 1, 8, none⟩ (.int .i64 0)).setCell ⟨rb + 1, 9, none⟩ (.int .i64 0)).setCell ⟨rb + 1, 10, none⟩ (.slice av ln cv)).heap[rb]? = some (.cells #[.int .i64 n, str L', .bool bad'] 193) := by
            iterate 11 rw [Below.heap_setCell _ _ _ _ (by simp)]
            exact hR5
          have q4 : (((((((((((w5.setCell ⟨rb + 1, 0, none⟩ (.int .i64 1)).setCell ⟨rb + 1, 1, none⟩ (.int .i64 0)).setCell ⟨rb + 1, 2, none⟩ (.int .i64 0)).setCell ⟨rb + 1, 3, none⟩ (.int .i64 0)).setCell ⟨rb + 1, 4, none⟩ (.int .i64 0)).setCell ⟨rb + 1, 5, none⟩ (.int .i64 0)).setCell ⟨rb + 1, 6, none⟩ (.int .i64 0)).setCell ⟨rb + 1, 7, none⟩ (.int .i64 0)).setCell ⟨rb + 1, 8, none⟩ (.int .i64 0)).setCell ⟨rb + 1, 9, none⟩ (.int .i64 0)).setCell ⟨rb + 1, 10, none⟩ (.slice av ln cv)).heap[b4]? = some (.cells #[.int .i64 0, .int .i64 0, .int .i64 0, .int .i64 0, .int .i64 0, .int .i64 0, .int .i64 0, .int .i64 0, .int .i64 0, .int .i64 0, .slice none 0 0] 143) := by
            iterate 11 rw [Below.heap_setCell _ _ _ _ (by simp; omega)]
            exact k45
          have q9 : (((((((((((w5.setCell ⟨rb + 1, 0, none⟩ (.int .i64 1)).setCell ⟨rb + 1, 1, none⟩ (.int .i64 0)).setCell ⟨rb + 1, 2, none⟩ (.int .i64 0)).setCell ⟨rb + 1, 3, none⟩ (.int .i64 0)).setCell ⟨rb + 1, 4, none⟩ (.int .i64 0)).setCell ⟨rb + 1, 5, none⟩ (.int .i64 0)).setCell ⟨rb + 1, 6, none⟩ (.int .i64 0)).setCell ⟨rb + 1, 7, none⟩ (.int .i64 0)).setCell ⟨rb + 1, 8, none⟩ (.int .i64 0)).setCell ⟨rb + 1, 9, none⟩ (.int .i64 0)).setCell ⟨rb + 1, 10, none⟩ (.slice av ln cv)).heap[rb + 1]? = some (.cells #[.int .i64 1, .int .i64 0, .int .i64 0, .int .i64 0, .int .i64 0, .int .i64 0, .int .i64 0, .int .i64 0, .int .i64 0, .int .i64 0, .slice av ln cv] 143) := set11_blk k95
          have hv6 : RowAt 154 15 (.slice av ln cv) (opRow l) (((((((((((w5.setCell ⟨rb + 1, 0, none⟩ (.int .i64 1)).setCell ⟨rb + 1, 1, none⟩ (.int .i64 0)).setCell ⟨rb + 1, 2, none⟩ (.int .i64 0)).setCell ⟨rb + 1, 3, none⟩ (.int .i64 0)).setCell ⟨rb + 1, 4, none⟩ (.int .i64 0)).setCell ⟨rb + 1, 5, none⟩ (.int .i64 0)).setCell ⟨rb + 1, 6, none⟩ (.int .i64 0)).setCell ⟨rb + 1, 7, none⟩ (.int .i64 0)).setCell ⟨rb + 1, 8, none⟩ (.int .i64 0)).setCell ⟨rb + 1, 9, none⟩ (.int .i64 0)).setCell ⟨rb + 1, 10, none⟩ (.slice av ln cv)) := hv.kept (fun g hg => by
            have hgn : g ≠ rb + 1 := fun e => by have := hvn g hg; omega
            iterate 11 rw [Below.heap_setCell _ _ _ _ hgn])
          generalize (((((((((((w5.setCell ⟨rb + 1, 0, none⟩ (.int .i64 1)).setCell ⟨rb + 1, 1, none⟩ (.int .i64 0)).setCell ⟨rb + 1, 2, none⟩ (.int .i64 0)).setCell ⟨rb + 1, 3, none⟩ (.int .i64 0)).setCell ⟨rb + 1, 4, none⟩ (.int .i64 0)).setCell ⟨rb + 1, 5, none⟩ (.int .i64 0)).setCell ⟨rb + 1, 6, none⟩ (.int .i64 0)).setCell ⟨rb + 1, 7, none⟩ (.int .i64 0)).setCell ⟨rb + 1, 8, none⟩ (.int .i64 0)).setCell ⟨rb + 1, 9, none⟩ (.int .i64 0)).setCell ⟨rb + 1, 10, none⟩ (.slice av ln cv)) = w6 at hF6 q1 q4 q9 hv6 ⊢
          clear d0 f0 d1 f1 d2 f2 d3 f3 d4 f4 d5 f5 d6 f6 d7 f7 d8 f8 d9 f9 d10 f10
          have r1 : w6.cell? ⟨rb, 1, none⟩ = some (str L') := cell_blk q1 1
          have r2 : w6.cell? ⟨rb, 2, none⟩ = some (.bool bad') := cell_blk q1 2
          clear k95 k45 hFA
          cases bad' with
          | true =>
            have HN := hide (noFr (n := n) HBK.out (fun l hl e => by rw [HM2.out] at e; simp at e) (fun u hu e => by
              rw [HM2.out] at e
              obtain ⟨z1, -, z3⟩ := HDC.out.2 rfl u [] hu (by simpa using e)
              cases z1))
            have d0 : w6.cell? ⟨b4, 0, none⟩ = some (.int .i64 0) := cell_blk q4 0
            have f0 : w6.frozen? ⟨b4, 0, none⟩ = false := frozen_blk q4 0
            have d1 : w6.cell? ⟨b4, 1, none⟩ = some (.int .i64 0) := cell_blk q4 1
            have f1 : w6.frozen? ⟨b4, 1, none⟩ = false := frozen_blk q4 1
            have d2 : w6.cell? ⟨b4, 2, none⟩ = some (.int .i64 0) := cell_blk q4 2
            have f2 : w6.frozen? ⟨b4, 2, none⟩ = false := frozen_blk q4 2
            have d3 : w6.cell? ⟨b4, 3, none⟩ = some (.int .i64 0) := cell_blk q4 3
            have f3 : w6.frozen? ⟨b4, 3, none⟩ = false := frozen_blk q4 3
            have d4 : w6.cell? ⟨b4, 4, none⟩ = some (.int .i64 0) := cell_blk q4 4
            have f4 : w6.frozen? ⟨b4, 4, none⟩ = false := frozen_blk q4 4
            have d5 : w6.cell? ⟨b4, 5, none⟩ = some (.int .i64 0) := cell_blk q4 5
            have f5 : w6.frozen? ⟨b4, 5, none⟩ = false := frozen_blk q4 5
            have d6 : w6.cell? ⟨b4, 6, none⟩ = some (.int .i64 0) := cell_blk q4 6
            have f6 : w6.frozen? ⟨b4, 6, none⟩ = false := frozen_blk q4 6
            have d7 : w6.cell? ⟨b4, 7, none⟩ = some (.int .i64 0) := cell_blk q4 7
            have f7 : w6.frozen? ⟨b4, 7, none⟩ = false := frozen_blk q4 7
            have d8 : w6.cell? ⟨b4, 8, none⟩ = some (.int .i64 0) := cell_blk q4 8
            have f8 : w6.frozen? ⟨b4, 8, none⟩ = false := frozen_blk q4 8
            have d9 : w6.cell? ⟨b4, 9, none⟩ = some (.int .i64 0) := cell_blk q4 9
            have f9 : w6.frozen? ⟨b4, 9, none⟩ = false := frozen_blk q4 9
            have d10 : w6.cell? ⟨b4, 10, none⟩ = some (.slice none 0 0) := cell_blk q4 10
            have f10 : w6.frozen? ⟨b4, 10, none⟩ = false := frozen_blk q4 10
            go_wp2_with fail
            have hF7 : Fr [] w (((((((((((w6.setCell ⟨b4, 0, none⟩ (.int .i64 0)).setCell ⟨b4, 1, none⟩ (.int .i64 0)).setCell ⟨b4, 2, none⟩ (.int .i64 0)).setCell ⟨b4, 3, none⟩ (.int .i64 0)).setCell ⟨b4, 4, none⟩ (.int .i64 0)).setCell ⟨b4, 5, none⟩ (.int .i64 0)).setCell ⟨b4, 6, none⟩ (.int .i64 0)).setCell ⟨b4, 7, none⟩ (.int .i64 0)).setCell ⟨b4, 8, none⟩ (.int .i64 0)).setCell ⟨b4, 9, none⟩ (.int .i64 0)).setCell ⟨b4, 10, none⟩ (.slice none 0 0)) := by
              iterate 11 refine Fr.setCell ?_ (.inr (by simp; omega)) _
              exact hF6
            have z4 : (((((((((((w6.setCell ⟨b4, 0, none⟩ (.int .i64 0)).setCell ⟨b4, 1, none⟩ (.int .i64 0)).setCell ⟨b4, 2, none⟩ (.int .i64 0)).setCell ⟨b4, 3, none⟩ (.int .i64 0)).setCell ⟨b4, 4, none⟩ (.int .i64 0)).setCell ⟨b4, 5, none⟩ (.int .i64 0)).setCell ⟨b4, 6, none⟩ (.int .i64 0)).setCell ⟨b4, 7, none⟩ (.int .i64 0)).setCell ⟨b4, 8, none⟩ (.int .i64 0)).setCell ⟨b4, 9, none⟩ (.int .i64 0)).setCell ⟨b4, 10, none⟩ (.slice none 0 0)).heap[b4]? = some (.cells (frArr 0 0 (fun _ => 0) (.slice none 0 0)) 143) := set11_blk q4
            generalize (((((((((((w6.setCell ⟨b4, 0, none⟩ (.int .i64 0)).setCell ⟨b4, 1, none⟩ (.int .i64 0)).setCell ⟨b4, 2, none⟩ (.int .i64 0)).setCell ⟨b4, 3, none⟩ (.int .i64 0)).setCell ⟨b4, 4, none⟩ (.int .i64 0)).setCell ⟨b4, 5, none⟩ (.int .i64 0)).setCell ⟨b4, 6, none⟩ (.int .i64 0)).setCell ⟨b4, 7, none⟩ (.int .i64 0)).setCell ⟨b4, 8, none⟩ (.int .i64 0)).setCell ⟨b4, 9, none⟩ (.int .i64 0)).setCell ⟨b4, 10, none⟩ (.slice none 0 0)) = w7 at hF7 z4 ⊢
            clear d0 f0 d1 f1 d2 f2 d3 f3 d4 f4 d5 f5 d6 f6 d7 f7 d8 f8 d9 f9 d10 f10
            unfold frArr at z4
            have d0 : w7.cell? ⟨b4, 0, none⟩ = some (.int .i64 0) := cell_blk z4 0
            have d1 : w7.cell? ⟨b4, 1, none⟩ = some (.int .i64 0) := cell_blk z4 1
            have d2 : w7.cell? ⟨b4, 2, none⟩ = some (.int .i64 0) := cell_blk z4 2
            have d3 : w7.cell? ⟨b4, 3, none⟩ = some (.int .i64 0) := cell_blk z4 3
            have d4 : w7.cell? ⟨b4, 4, none⟩ = some (.int .i64 0) := cell_blk z4 4
            have d5 : w7.cell? ⟨b4, 5, none⟩ = some (.int .i64 0) := cell_blk z4 5
            have d6 : w7.cell? ⟨b4, 6, none⟩ = some (.int .i64 0) := cell_blk z4 6
            have d7 : w7.cell? ⟨b4, 7, none⟩ = some (.int .i64 0) := cell_blk z4 7
            have d8 : w7.cell? ⟨b4, 8, none⟩ = some (.int .i64 0) := cell_blk z4 8
            have d9 : w7.cell? ⟨b4, 9, none⟩ = some (.int .i64 0) := cell_blk z4 9
            have d10 : w7.cell? ⟨b4, 10, none⟩ = some (.slice none 0 0) := cell_blk z4 10
            exact bodyPost_ret (v := .tuple #[.agg (frArr 0 0 (fun _ => 0) (.slice none 0 0)), .bool false]) (by simp [results, Tryz.results87, go_sem, frArr, d0, d1, d2, d3, d4, d5, d6, d7, d8, d9, d10]) rfl ⟨hF7.toGrown, .inl ⟨rfl, HN.out⟩⟩
          | false =>
            cases L' with
            | cons a t =>
              have hnb : ((a :: t) == ([] : List UInt8)) = false := rfl
              have HN := hide (noFr (n := n) HBK.out (fun l hl e => by rw [HM2.out] at e; simp at e) (fun u hu e => by
                rw [HM2.out] at e
                obtain ⟨z1, -, z3⟩ := HDC.out.2 rfl u [] hu (by simpa using e)
                cases z3))
              generalize a :: t = AT at r1 hnb
              have d0 : w6.cell? ⟨b4, 0, none⟩ = some (.int .i64 0) := cell_blk q4 0
              have f0 : w6.frozen? ⟨b4, 0, none⟩ = false := frozen_blk q4 0
              have d1 : w6.cell? ⟨b4, 1, none⟩ = some (.int .i64 0) := cell_blk q4 1
              have f1 : w6.frozen? ⟨b4, 1, none⟩ = false := frozen_blk q4 1
              have d2 : w6.cell? ⟨b4, 2, none⟩ = some (.int .i64 0) := cell_blk q4 2
              have f2 : w6.frozen? ⟨b4, 2, none⟩ = false := frozen_blk q4 2
              have d3 : w6.cell? ⟨b4, 3, none⟩ = some (.int .i64 0) := cell_blk q4 3
              have f3 : w6.frozen? ⟨b4, 3, none⟩ = false := frozen_blk q4 3
              have d4 : w6.cell? ⟨b4, 4, none⟩ = some (.int .i64 0) := cell_blk q4 4
              have f4 : w6.frozen? ⟨b4, 4, none⟩ = false := frozen_blk q4 4
              have d5 : w6.cell? ⟨b4, 5, none⟩ = some (.int .i64 0) := cell_blk q4 5
              have f5 : w6.frozen? ⟨b4, 5, none⟩ = false := frozen_blk q4 5
              have d6 : w6.cell? ⟨b4, 6, none⟩ = some (.int .i64 0) := cell_blk q4 6
              have f6 : w6.frozen? ⟨b4, 6, none⟩ = false := frozen_blk q4 6
              have d7 : w6.cell? ⟨b4, 7, none⟩ = some (.int .i64 0) := cell_blk q4 7
              have f7 : w6.frozen? ⟨b4, 7, none⟩ = false := frozen_blk q4 7
              have d8 : w6.cell? ⟨b4, 8, none⟩ = some (.int .i64 0) := cell_blk q4 8
              have f8 : w6.frozen? ⟨b4, 8, none⟩ = false := frozen_blk q4 8
              have d9 : w6.cell? ⟨b4, 9, none⟩ = some (.int .i64 0) := cell_blk q4 9
              have f9 : w6.frozen? ⟨b4, 9, none⟩ = false := frozen_blk q4 9
              have d10 : w6.cell? ⟨b4, 10, none⟩ = some (.slice none 0 0) := cell_blk q4 10
              have f10 : w6.frozen? ⟨b4, 10, none⟩ = false := frozen_blk q4 10
              go_wp2_with fail
              have hF7 : Fr [] w (((((((((((w6.setCell ⟨b4, 0, none⟩ (.int .i64 0)).setCell ⟨b4, 1, none⟩ (.int .i64 0)).setCell ⟨b4, 2, none⟩ (.int .i64 0)).setCell ⟨b4, 3, none⟩ (.int .i64 0)).setCell ⟨b4, 4, none⟩ (.int .i64 0)).setCell ⟨b4, 5, none⟩ (.int .i64 0)).setCell ⟨b4, 6, none⟩ (.int .i64 0)).setCell ⟨b4, 7, none⟩ (.int .i64 0)).setCell ⟨b4, 8, none⟩ (.int .i64 0)).setCell ⟨b4, 9, none⟩ (.int .i64 0)).setCell ⟨b4, 10, none⟩ (.slice none 0 0)) := by
                iterate 11 refine Fr.setCell ?_ (.inr (by simp; omega)) _
                exact hF6
              have z4 : (((((((((((w6.setCell ⟨b4, 0, none⟩ (.int .i64 0)).setCell ⟨b4, 1, none⟩ (.int .i64 0)).setCell ⟨b4, 2, none⟩ (.int .i64 0)).setCell ⟨b4, 3, none⟩ (.int .i64 0)).setCell ⟨b4, 4, none⟩ (.int .i64 0)).setCell ⟨b4, 5, none⟩ (.int .i64 0)).setCell ⟨b4, 6, none⟩ (.int .i64 0)).setCell ⟨b4, 7, none⟩ (.int .i64 0)).setCell ⟨b4, 8, none⟩ (.int .i64 0)).setCell ⟨b4, 9, none⟩ (.int .i64 0)).setCell ⟨b4, 10, none⟩ (.slice none 0 0)).heap[b4]? = some (.cells (frArr 0 0 (fun _ => 0) (.slice none 0 0)) 143) := set11_blk q4
              generalize (((((((((((w6.setCell ⟨b4, 0, none⟩ (.int .i64 0)).setCell ⟨b4, 1, none⟩ (.int .i64 0)).setCell ⟨b4, 2, none⟩ (.int .i64 0)).setCell ⟨b4, 3, none⟩ (.int .i64 0)).setCell ⟨b4, 4, none⟩ (.int .i64 0)).setCell ⟨b4, 5, none⟩ (.int .i64 0)).setCell ⟨b4, 6, none⟩ (.int .i64 0)).setCell ⟨b4, 7, none⟩ (.int .i64 0)).setCell ⟨b4, 8, none⟩ (.int .i64 0)).setCell ⟨b4, 9, none⟩ (.int .i64 0)).setCell ⟨b4, 10, none⟩ (.slice none 0 0)) = w7 at hF7 z4 ⊢
              clear d0 f0 d1 f1 d2 f2 d3 f3 d4 f4 d5 f5 d6 f6 d7 f7 d8 f8 d9 f9 d10 f10
              unfold frArr at z4
              have d0 : w7.cell? ⟨b4, 0, none⟩ = some (.int .i64 0) := cell_blk z4 0
              have d1 : w7.cell? ⟨b4, 1, none⟩ = some (.int .i64 0) := cell_blk z4 1
              have d2 : w7.cell? ⟨b4, 2, none⟩ = some (.int .i64 0) := cell_blk z4 2
              have d3 : w7.cell? ⟨b4, 3, none⟩ = some (.int .i64 0) := cell_blk z4 3
              have d4 : w7.cell? ⟨b4, 4, none⟩ = some (.int .i64 0) := cell_blk z4 4
              have d5 : w7.cell? ⟨b4, 5, none⟩ = some (.int .i64 0) := cell_blk z4 5
              have d6 : w7.cell? ⟨b4, 6, none⟩ = some (.int .i64 0) := cell_blk z4 6
              have d7 : w7.cell? ⟨b4, 7, none⟩ = some (.int .i64 0) := cell_blk z4 7
              have d8 : w7.cell? ⟨b4, 8, none⟩ = some (.int .i64 0) := cell_blk z4 8
              have d9 : w7.cell? ⟨b4, 9, none⟩ = some (.int .i64 0) := cell_blk z4 9
              have d10 : w7.cell? ⟨b4, 10, none⟩ = some (.slice none 0 0) := cell_blk z4 10
              exact bodyPost_ret (v := .tuple #[.agg (frArr 0 0 (fun _ => 0) (.slice none 0 0)), .bool false]) (by simp [results, Tryz.results87, go_sem, frArr, d0, d1, d2, d3, d4, d5, d6, d7, d8, d9, d10]) rfl ⟨hF7.toGrown, .inl ⟨rfl, HN.out⟩⟩
            | nil =>
              have hnb : (([] : List UInt8) == ([] : List UInt8)) = true := rfl
              have c0 : w6.cell? ⟨rb + 1, 0, none⟩ = some (.int .i64 1) := cell_blk q9 0
              have c1 : w6.cell? ⟨rb + 1, 1, none⟩ = some (.int .i64 0) := cell_blk q9 1
              have c2 : w6.cell? ⟨rb + 1, 2, none⟩ = some (.int .i64 0) := cell_blk q9 2
              have c3 : w6.cell? ⟨rb + 1, 3, none⟩ = some (.int .i64 0) := cell_blk q9 3
              have c4 : w6.cell? ⟨rb + 1, 4, none⟩ = some (.int .i64 0) := cell_blk q9 4
              have c5 : w6.cell? ⟨rb + 1, 5, none⟩ = some (.int .i64 0) := cell_blk q9 5
              have c6 : w6.cell? ⟨rb + 1, 6, none⟩ = some (.int .i64 0) := cell_blk q9 6
              have c7 : w6.cell? ⟨rb + 1, 7, none⟩ = some (.int .i64 0) := cell_blk q9 7
              have c8 : w6.cell? ⟨rb + 1, 8, none⟩ = some (.int .i64 0) := cell_blk q9 8
              have c9 : w6.cell? ⟨rb + 1, 9, none⟩ = some (.int .i64 0) := cell_blk q9 9
              have c10 : w6.cell? ⟨rb + 1, 10, none⟩ = some (.slice av ln cv) := cell_blk q9 10
              have d0 : w6.cell? ⟨b4, 0, none⟩ = some (.int .i64 0) := cell_blk q4 0
              have f0 : w6.frozen? ⟨b4, 0, none⟩ = false := frozen_blk q4 0
              have d1 : w6.cell? ⟨b4, 1, none⟩ = some (.int .i64 0) := cell_blk q4 1
              have f1 : w6.frozen? ⟨b4, 1, none⟩ = false := frozen_blk q4 1
              have d2 : w6.cell? ⟨b4, 2, none⟩ = some (.int .i64 0) := cell_blk q4 2
              have f2 : w6.frozen? ⟨b4, 2, none⟩ = false := frozen_blk q4 2
              have d3 : w6.cell? ⟨b4, 3, none⟩ = some (.int .i64 0) := cell_blk q4 3
              have f3 : w6.frozen? ⟨b4, 3, none⟩ = false := frozen_blk q4 3
              have d4 : w6.cell? ⟨b4, 4, none⟩ = some (.int .i64 0) := cell_blk q4 4
              have f4 : w6.frozen? ⟨b4, 4, none⟩ = false := frozen_blk q4 4
              have d5 : w6.cell? ⟨b4, 5, none⟩ = some (.int .i64 0) := cell_blk q4 5
              have f5 : w6.frozen? ⟨b4, 5, none⟩ = false := frozen_blk q4 5
              have d6 : w6.cell? ⟨b4, 6, none⟩ = some (.int .i64 0) := cell_blk q4 6
              have f6 : w6.frozen? ⟨b4, 6, none⟩ = false := frozen_blk q4 6
              have d7 : w6.cell? ⟨b4, 7, none⟩ = some (.int .i64 0) := cell_blk q4 7
              have f7 : w6.frozen? ⟨b4, 7, none⟩ = false := frozen_blk q4 7
              have d8 : w6.cell? ⟨b4, 8, none⟩ = some (.int .i64 0) := cell_blk q4 8
              have f8 : w6.frozen? ⟨b4, 8, none⟩ = false := frozen_blk q4 8
              have d9 : w6.cell? ⟨b4, 9, none⟩ = some (.int .i64 0) := cell_blk q4 9
              have f9 : w6.frozen? ⟨b4, 9, none⟩ = false := frozen_blk q4 9
              have d10 : w6.cell? ⟨b4, 10, none⟩ = some (.slice none 0 0) := cell_blk q4 10
              have f10 : w6.frozen? ⟨b4, 10, none⟩ = false := frozen_blk q4 10
              go_wp2_with fail
              have hF7 : Fr [] w (((((((((((w6.setCell ⟨b4, 0, none⟩ (.int .i64 1)).setCell ⟨b4, 1, none⟩ (.int .i64 0)).setCell ⟨b4, 2, none⟩ (.int .i64 0)).setCell ⟨b4, 3, none⟩ (.int .i64 0)).setCell ⟨b4, 4, none⟩ (.int .i64 0)).setCell ⟨b4, 5, none⟩ (.int .i64 0)).setCell ⟨b4, 6, none⟩ (.int .i64 0)).setCell ⟨b4, 7, none⟩ (.int .i64 0)).setCell ⟨b4, 8, none⟩ (.int .i64 0)).setCell ⟨b4, 9, none⟩ (.int .i64 0)).setCell ⟨b4, 10, none⟩ (.slice av ln cv)) := by
                iterate 11 refine Fr.setCell ?_ (.inr (by simp; omega)) _
                exact hF6
              have z4 : (((((((((((w6.setCell ⟨b4, 0, none⟩ (.int .i64 1)).setCell ⟨b4, 1, none⟩ (.int .i64 0)).setCell ⟨b4, 2, none⟩ (.int .i64 0)).setCell ⟨b4, 3, none⟩ (.int .i64 0)).setCell ⟨b4, 4, none⟩ (.int .i64 0)).setCell ⟨b4, 5, none⟩ (.int .i64 0)).setCell ⟨b4, 6, none⟩ (.int .i64 0)).setCell ⟨b4, 7, none⟩ (.int .i64 0)).setCell ⟨b4, 8, none⟩ (.int .i64 0)).setCell ⟨b4, 9, none⟩ (.int .i64 0)).setCell ⟨b4, 10, none⟩ (.slice av ln cv)).heap[b4]? = some (.cells #[.int .i64 1, .int .i64 0, .int .i64 0, .int .i64 0, .int .i64 0, .int .i64 0, .int .i64 0, .int .i64 0, .int .i64 0, .int .i64 0, .slice av ln cv] 143) := set11_blk q4
              have hv7 : RowAt 154 15 (.slice av ln cv) (opRow l) (((((((((((w6.setCell ⟨b4, 0, none⟩ (.int .i64 1)).setCell ⟨b4, 1, none⟩ (.int .i64 0)).setCell ⟨b4, 2, none⟩ (.int .i64 0)).setCell ⟨b4, 3, none⟩ (.int .i64 0)).setCell ⟨b4, 4, none⟩ (.int .i64 0)).setCell ⟨b4, 5, none⟩ (.int .i64 0)).setCell ⟨b4, 6, none⟩ (.int .i64 0)).setCell ⟨b4, 7, none⟩ (.int .i64 0)).setCell ⟨b4, 8, none⟩ (.int .i64 0)).setCell ⟨b4, 9, none⟩ (.int .i64 0)).setCell ⟨b4, 10, none⟩ (.slice av ln cv)) := hv6.kept (fun g hg => by
                have hgn : g ≠ b4 := fun e => by have := hvn g hg; omega
                iterate 11 rw [Below.heap_setCell _ _ _ _ hgn])
              generalize (((((((((((w6.setCell ⟨b4, 0, none⟩ (.int .i64 1)).setCell ⟨b4, 1, none⟩ (.int .i64 0)).setCell ⟨b4, 2, none⟩ (.int .i64 0)).setCell ⟨b4, 3, none⟩ (.int .i64 0)).setCell ⟨b4, 4, none⟩ (.int .i64 0)).setCell ⟨b4, 5, none⟩ (.int .i64 0)).setCell ⟨b4, 6, none⟩ (.int .i64 0)).setCell ⟨b4, 7, none⟩ (.int .i64 0)).setCell ⟨b4, 8, none⟩ (.int .i64 0)).setCell ⟨b4, 9, none⟩ (.int .i64 0)).setCell ⟨b4, 10, none⟩ (.slice av ln cv)) = w7 at hF7 z4 hv7 ⊢
              clear c0 d0 f0 c1 d1 f1 c2 d2 f2 c3 d3 f3 c4 d4 f4 c5 d5 f5 c6 d6 f6 c7 d7 f7 c8 d8 f8 c9 d9 f9 c10 d10 f10
              have d0 : w7.cell? ⟨b4, 0, none⟩ = some (.int .i64 1) := cell_blk z4 0
              have d1 : w7.cell? ⟨b4, 1, none⟩ = some (.int .i64 0) := cell_blk z4 1
              have d2 : w7.cell? ⟨b4, 2, none⟩ = some (.int .i64 0) := cell_blk z4 2
              have d3 : w7.cell? ⟨b4, 3, none⟩ = some (.int .i64 0) := cell_blk z4 3
              have d4 : w7.cell? ⟨b4, 4, none⟩ = some (.int .i64 0) := cell_blk z4 4
              have d5 : w7.cell? ⟨b4, 5, none⟩ = some (.int .i64 0) := cell_blk z4 5
              have d6 : w7.cell? ⟨b4, 6, none⟩ = some (.int .i64 0) := cell_blk z4 6
              have d7 : w7.cell? ⟨b4, 7, none⟩ = some (.int .i64 0) := cell_blk z4 7
              have d8 : w7.cell? ⟨b4, 8, none⟩ = some (.int .i64 0) := cell_blk z4 8
              have d9 : w7.cell? ⟨b4, 9, none⟩ = some (.int .i64 0) := cell_blk z4 9
              have d10 : w7.cell? ⟨b4, 10, none⟩ = some (.slice av ln cv) := cell_blk z4 10
              exact bodyPost_ret (v := .tuple #[.agg (frArr 1 0 (fun _ => 0) (.slice av ln cv)), .bool true]) (by simp [results, Tryz.results87, go_sem, frArr, d0, d1, d2, d3, d4, d5, d6, d7, d8, d9, d10]) rfl ⟨hF7.toGrown, .inr (.inr ⟨l, _, (HDC.out.1 rfl).2.1, hD120, by rw [HD0.out, HM2.out, show L = bEnc n l from by simpa using (HDC.out.1 rfl).2.2], hv7, fun g hg => by have := hvn g hg; omega, rfl⟩)⟩
        · have HN := hide (noFr (n := n) HBK.out (fun d hd e => by
            rw [← HM.out] at e
            exact h68 (by rw [HH.out, (List.cons.inj e).1]; rfl)) (fun l hl e => by
            rw [← HM.out] at e
            exact h66 (by rw [HH.out, (List.cons.inj e).1]; rfl)))
          have hFr3 : Fr [] w w3 := Fr.ofGrown gA
          have d0 : w3.cell? ⟨b4, 0, none⟩ = some (.int .i64 0) := cell_blk k43 0
          have f0 : w3.frozen? ⟨b4, 0, none⟩ = false := frozen_blk k43 0
          have d1 : w3.cell? ⟨b4, 1, none⟩ = some (.int .i64 0) := cell_blk k43 1
          have f1 : w3.frozen? ⟨b4, 1, none⟩ = false := frozen_blk k43 1
          have d2 : w3.cell? ⟨b4, 2, none⟩ = some (.int .i64 0) := cell_blk k43 2
          have f2 : w3.frozen? ⟨b4, 2, none⟩ = false := frozen_blk k43 2
          have d3 : w3.cell? ⟨b4, 3, none⟩ = some (.int .i64 0) := cell_blk k43 3
          have f3 : w3.frozen? ⟨b4, 3, none⟩ = false := frozen_blk k43 3
          have d4 : w3.cell? ⟨b4, 4, none⟩ = some (.int .i64 0) := cell_blk k43 4
          have f4 : w3.frozen? ⟨b4, 4, none⟩ = false := frozen_blk k43 4
          have d5 : w3.cell? ⟨b4, 5, none⟩ = some (.int .i64 0) := cell_blk k43 5
          have f5 : w3.frozen? ⟨b4, 5, none⟩ = false := frozen_blk k43 5
          have d6 : w3.cell? ⟨b4, 6, none⟩ = some (.int .i64 0) := cell_blk k43 6
          have f6 : w3.frozen? ⟨b4, 6, none⟩ = false := frozen_blk k43 6
          have d7 : w3.cell? ⟨b4, 7, none⟩ = some (.int .i64 0) := cell_blk k43 7
          have f7 : w3.frozen? ⟨b4, 7, none⟩ = false := frozen_blk k43 7
          have d8 : w3.cell? ⟨b4, 8, none⟩ = some (.int .i64 0) := cell_blk k43 8
          have f8 : w3.frozen? ⟨b4, 8, none⟩ = false := frozen_blk k43 8
          have d9 : w3.cell? ⟨b4, 9, none⟩ = some (.int .i64 0) := cell_blk k43 9
          have f9 : w3.frozen? ⟨b4, 9, none⟩ = false := frozen_blk k43 9
          have d10 : w3.cell? ⟨b4, 10, none⟩ = some (.slice none 0 0) := cell_blk k43 10
          have f10 : w3.frozen? ⟨b4, 10, none⟩ = false := frozen_blk k43 10
          go_wp2_with fail
          have hF7 : Fr [] w (((((((((((w3.setCell ⟨b4, 0, none⟩ (.int .i64 0)).setCell ⟨b4, 1, none⟩ (.int .i64 0)).setCell ⟨b4, 2, none⟩ (.int .i64 0)).setCell ⟨b4, 3, none⟩ (.int .i64 0)).setCell ⟨b4, 4, none⟩ (.int .i64 0)).setCell ⟨b4, 5, none⟩ (.int .i64 0)).setCell ⟨b4, 6, none⟩ (.int .i64 0)).setCell ⟨b4, 7, none⟩ (.int .i64 0)).setCell ⟨b4, 8, none⟩ (.int .i64 0)).setCell ⟨b4, 9, none⟩ (.int .i64 0)).setCell ⟨b4, 10, none⟩ (.slice none 0 0)) := by
            iterate 11 refine Fr.setCell ?_ (.inr (by simp; omega)) _
            exact hFr3
          have z4 : (((((((((((w3.setCell ⟨b4, 0, none⟩ (.int .i64 0)).setCell ⟨b4, 1, none⟩ (.int .i64 0)).setCell ⟨b4, 2, none⟩ (.int .i64 0)).setCell ⟨b4, 3, none⟩ (.int .i64 0)).setCell ⟨b4, 4, none⟩ (.int .i64 0)).setCell ⟨b4, 5, none⟩ (.int .i64 0)).setCell ⟨b4, 6, none⟩ (.int .i64 0)).setCell ⟨b4, 7, none⟩ (.int .i64 0)).setCell ⟨b4, 8, none⟩ (.int .i64 0)).setCell ⟨b4, 9, none⟩ (.int .i64 0)).setCell ⟨b4, 10, none⟩ (.slice none 0 0)).heap[b4]? = some (.cells (frArr 0 0 (fun _ => 0) (.slice none 0 0)) 143) := set11_blk k43
          generalize (((((((((((w3.setCell ⟨b4, 0, none⟩ (.int .i64 0)).setCell ⟨b4, 1, none⟩ (.int .i64 0)).setCell ⟨b4, 2, none⟩ (.int .i64 0)).setCell ⟨b4, 3, none⟩ (.int .i64 0)).setCell ⟨b4, 4, none⟩ (.int .i64 0)).setCell ⟨b4, 5, none⟩ (.int .i64 0)).setCell ⟨b4, 6, none⟩ (.int .i64 0)).setCell ⟨b4, 7, none⟩ (.int .i64 0)).setCell ⟨b4, 8, none⟩ (.int .i64 0)).setCell ⟨b4, 9, none⟩ (.int .i64 0)).setCell ⟨b4, 10, none⟩ (.slice none 0 0)) = w7 at hF7 z4 ⊢
          clear d0 f0 d1 f1 d2 f2 d3 f3 d4 f4 d5 f5 d6 f6 d7 f7 d8 f8 d9 f9 d10 f10
          unfold frArr at z4
          have d0 : w7.cell? ⟨b4, 0, none⟩ = some (.int .i64 0) := cell_blk z4 0
          have d1 : w7.cell? ⟨b4, 1, none⟩ = some (.int .i64 0) := cell_blk z4 1
          have d2 : w7.cell? ⟨b4, 2, none⟩ = some (.int .i64 0) := cell_blk z4 2
          have d3 : w7.cell? ⟨b4, 3, none⟩ = some (.int .i64 0) := cell_blk z4 3
          have d4 : w7.cell? ⟨b4, 4, none⟩ = some (.int .i64 0) := cell_blk z4 4
          have d5 : w7.cell? ⟨b4, 5, none⟩ = some (.int .i64 0) := cell_blk z4 5
          have d6 : w7.cell? ⟨b4, 6, none⟩ = some (.int .i64 0) := cell_blk z4 6
          have d7 : w7.cell? ⟨b4, 7, none⟩ = some (.int .i64 0) := cell_blk z4 7
          have d8 : w7.cell? ⟨b4, 8, none⟩ = some (.int .i64 0) := cell_blk z4 8
          have d9 : w7.cell? ⟨b4, 9, none⟩ = some (.int .i64 0) := cell_blk z4 9
          have d10 : w7.cell? ⟨b4, 10, none⟩ = some (.slice none 0 0) := cell_blk z4 10
          exact bodyPost_ret (v := .tuple #[.agg (frArr 0 0 (fun _ => 0) (.slice none 0 0)), .bool false]) (by simp [results, Tryz.results87, go_sem, frArr, d0, d1, d2, d3, d4, d5, d6, d7, d8, d9, d10]) rfl ⟨hF7.toGrown, .inl ⟨rfl, HN.out⟩⟩

end Go.Proofs.YtachmkhbbbmioaaGreat

namespace Go.Proofs.YtachmkhbbbmioaaGreat
open Go.RowKit

/-! Bytes of one frame are bytes of no other. -/

theorem vbI_one {u u' : Int} {r r' : List UInt8} (h : N7 u) (h' : N7 u') (e : vbI u ++ r = vbI u' ++ r') : u = u' ∧ r = r' := by
  obtain ⟨c, -⟩ := rnum_cmp (vbI u ++ r) false
  have a := c rfl u r h rfl
  have b := c rfl u' r' h' e
  exact ⟨a.2.1.symm.trans b.2.1, a.2.2.symm.trans b.2.2⟩

theorem vbs_one : ∀ {xs ys : List Int} {r r' : List UInt8}, xs.length = ys.length → (∀ x ∈ xs, N7 x) → (∀ y ∈ ys, N7 y) → vbs xs ++ r = vbs ys ++ r' → xs = ys ∧ r = r'
  | [], [], _, _, _, _, _, e => ⟨rfl, by simpa [vbs] using e⟩
  | [], y :: ys, _, _, hl, _, _, _ => by simp at hl
  | x :: xs, [], _, _, hl, _, _, _ => by simp at hl
  | x :: xs, y :: ys, r, r', hl, h1, h2, e => by
    have e' : vbI x ++ (vbs xs ++ r) = vbI y ++ (vbs ys ++ r') := by
      rw [← List.append_assoc, ← List.append_assoc]
      exact e
    obtain ⟨a, b⟩ := vbI_one (h1 x (by simp)) (h2 y (by simp)) e'
    obtain ⟨c, d⟩ := vbs_one (by simpa using hl) (fun z hz => h1 z (by simp [hz])) (fun z hz => h2 z (by simp [hz])) b
    exact ⟨by rw [a, c], d⟩

theorem clk_one {n : Nat} {p q : Nat → Int} (hp : ∀ i, n ≤ i → p i = 0) (hq : ∀ i, n ≤ i → q i = 0) (e : clk n p = clk n q) : p = q := by
  rw [← qOf_clk hp, ← qOf_clk hq, e]

theorem clk_n7 {n : Nat} {q : Nat → Int} (h : ∀ i, i < n → 0 ≤ q i ∧ q i ≤ 100) : ∀ y ∈ clk n q, N7 y := fun y hy => by
  obtain ⟨i, hi, rfl⟩ := clk_mem hy
  have := h i hi
  exact ⟨by omega, by omega⟩

theorem opB_one {n : Nat} (h8 : n ≤ 8) {x y : OpR} {r r' : List UInt8} (hx : Ok8 n x) (hy : Ok8 n y) (e : x.bytes n ++ r = y.bytes n ++ r') : x = y ∧ r = r' := by
  rw [bytes_eq, bytes_eq] at e
  simp only [List.append_assoc, tEnc] at e
  have a1 := hx.o
  have a2 := hx.num
  have a3 := hx.c
  have a4 := hx.kind
  have a5 := hx.tgt
  have b1 := hy.o
  have b2 := hy.num
  have b3 := hy.c
  have b4 := hy.kind
  have b5 := hy.tgt
  obtain ⟨v1, e⟩ := vbI_one ⟨by omega, by omega⟩ ⟨by omega, by omega⟩ e
  obtain ⟨v2, e⟩ := vbI_one ⟨by omega, by omega⟩ ⟨by omega, by omega⟩ e
  obtain ⟨v3, e⟩ := vbI_one ⟨by omega, by omega⟩ ⟨by omega, by omega⟩ e
  obtain ⟨v4, e⟩ := vbI_one ⟨by omega, by omega⟩ ⟨by omega, by omega⟩ e
  obtain ⟨v5, e⟩ := vbI_one ⟨by omega, by omega⟩ ⟨by omega, by omega⟩ e
  obtain ⟨v6, e⟩ := vbI_one ⟨by omega, by omega⟩ ⟨by omega, by omega⟩ e
  have v7 : x.r = y.r ∧ cEnc n x.q ++ r = cEnc n y.q ++ r' := by
    by_cases k0 : x.kind = 0
    · have k0' : y.kind = 0 := by omega
      have s1 := hx.r k0
      have s2 := hy.r k0'
      simp only [rEnc, k0, k0', if_true] at e
      exact vbI_one ⟨s1.1, by have := s1.2.1; omega⟩ ⟨s2.1, by have := s2.2.1; omega⟩ e
    · have k1 : x.kind = 1 := by omega
      have k1' : y.kind = 1 := by omega
      refine ⟨by rw [hx.r1 k1, hy.r1 k1'], ?_⟩
      simpa [rEnc, k1, k1'] using e
  obtain ⟨v8, e⟩ := vbs_one (by rw [clk_len, clk_len]) (clk_n7 hx.q) (clk_n7 hy.q) v7.2
  have v9 := clk_one hx.q0 hy.q0 v8
  refine ⟨?_, e⟩
  cases x
  cases y
  simp only [OpR.mk.injEq]
  exact ⟨v1, v2, v3, v4, v5, v6, v7.1, v9⟩

theorem ops_one {n : Nat} (h8 : n ≤ 8) : ∀ {l m : List OpR} {r r' : List UInt8}, l.length = m.length → (∀ x ∈ l, Ok8 n x) → (∀ y ∈ m, Ok8 n y) → opsEnc n l ++ r = opsEnc n m ++ r' → l = m ∧ r = r'
  | [], [], _, _, _, _, _, e => ⟨rfl, by simpa [opsEnc] using e⟩
  | [], y :: ys, _, _, hl, _, _, _ => by simp at hl
  | x :: xs, [], _, _, hl, _, _, _ => by simp at hl
  | x :: xs, y :: ys, r, r', hl, h1, h2, e => by
    have e' : x.bytes n ++ (opsEnc n xs ++ r) = y.bytes n ++ (opsEnc n ys ++ r') := by
      simpa [opsEnc] using e
    obtain ⟨a, b⟩ := opB_one h8 (h1 x (by simp)) (h2 y (by simp)) e'
    obtain ⟨c, d⟩ := ops_one h8 (by simpa using hl) (fun z hz => h1 z (by simp [hz])) (fun z hz => h2 z (by simp [hz])) b
    exact ⟨by rw [a, c], d⟩

theorem seal_one {m m' : List UInt8} (e : sealB m = sealB m') : m = m' := by
  rw [← seal_take m, e, seal_take]

theorem dig_one {n : Nat} (h8 : n ≤ 8) {d d' : Int × (Nat → Int)} (h : dOk n d) (h' : dOk n d') (e : sealB (68 :: dEnc n d) = sealB (68 :: dEnc n d')) : d = d' := by
  have e1 := (List.cons.inj (seal_one e)).2
  obtain ⟨s, q⟩ := d
  obtain ⟨s', q'⟩ := d'
  have a := h.1
  have b := h'.1
  simp only at a b
  obtain ⟨v1, e2⟩ := vbI_one ⟨by omega, by omega⟩ ⟨by omega, by omega⟩ e1
  obtain ⟨v2, -⟩ := vbs_one (r := []) (r' := []) (by rw [clk_len, clk_len]) (clk_n7 h.2.1) (clk_n7 h'.2.1) (by simpa [cEnc] using e2)
  have v3 := clk_one h.2.2 h'.2.2 v2
  simp only at v1 v3
  rw [v1, v3]

theorem bat_one {n : Nat} (h8 : n ≤ 8) {l m : List OpR} (h : bOk n l) (h' : bOk n m) (e : sealB (66 :: bEnc n l) = sealB (66 :: bEnc n m)) : l = m := by
  have e1 := (List.cons.inj (seal_one e)).2
  have a := h.1
  have b := h'.1
  obtain ⟨v1, e2⟩ := vbI_one ⟨by omega, by omega⟩ ⟨by omega, by omega⟩ e1
  obtain ⟨v2, -⟩ := ops_one h8 (r := []) (r' := []) (by omega) h.2 h'.2 (by simpa using e2)
  exact v2

theorem dig_bat {n : Nat} {d : Int × (Nat → Int)} {l : List OpR} (e : sealB (68 :: dEnc n d) = sealB (66 :: bEnc n l)) : False := by
  have e1 := (List.cons.inj (seal_one e)).1
  exact absurd e1 (by decide)

end Go.Proofs.YtachmkhbbbmioaaGreat
