import Derived.Test.YtachmkhbbbmioaaGreatRefVX
import Derived.Test.YtachmkhbbbmioaaGreatFrRX
namespace Go.Proofs.YtachmkhbbbmioaaGreat
open Go.RowKit Go.Shelf

/-- A cursor of the document's: what is left, whether something was wrong. -/
def CuAt (cb : Nat) (l : List UInt8) (bad : Bool) (w : World) : Prop := w.heap[cb]? = some (.cells #[str l, .bool bad] 160)

set_option maxRecDepth 100000 in
set_option maxHeartbeats 2000000 in
theorem cuNumR (cb : Nat) (b : UInt8) (hb : b.toNat < 128) (L : List UInt8) (hL0 : L[0]? = some b) (hl : L.length ≤ 1000) (w : World) (h : CuAt cb L false w) :
    Calls Tryz.prog 95 #[.pointer (some ⟨cb, 0, none⟩)] w fun e w' => e = .returned (.int .i64 (b.toNat : Int)) ∧ CuAt cb (L.drop 1) false w' ∧ Fr [cb] w w' := by
  have c0 : w.cell? ⟨cb, 0, none⟩ = some (str L) := cell_blk h 0
  have f0 : w.frozen? ⟨cb, 0, none⟩ = false := frozen_blk h 0
  have hlp : 0 < L.length := (List.getElem?_eq_some_iff.1 hL0).1
  have hlpi : (0 : Int) < (L.length : Int) := by omega
  have hx : ∀ w, (Instr.index 9 (str L) (.int .i64 0)).run Tryz.prog w = .ok (.int .u8 (b.toNat : Int)) w := fun w => sindex L 0 b hL0 w
  have hdr : ∀ w, (Instr.slice 9 (str L) (some (.int .i64 1)) none none).run Tryz.prog w = .ok (str (L.drop 1)) w := fun w => str_drop L 1 (by omega) w
  have hbi : (b.toNat : Int) < 128 := by omega
  have hb0 : (0 : Int) ≤ (b.toNat : Int) := by omega
  have e1 : (b.toNat : Int) % 128 = (b.toNat : Int) := by omega
  have H : Hid (w.heap[cb]? = some (.cells #[str L, .bool false] 160)) := h
  generalize L.drop 1 = D at hdr ⊢
  clear hL0 hb h
  generalize (b.toNat : Int) = x at hx hbi hb0 e1 ⊢
  have hwx : IntKind.i64.wrap x = x := by rw [IntKind.wrap_i64]; omega
  go_enter Tryz.func95, Tryz.ntmps95
  go_wp2_with fail
  go_loopg [3, 4, 5] 1 (fun _ s3 s4 s5 wr => s3 = .int .i64 0 ∧ s4 = .int .i64 1 ∧ s5 = .int .i64 0 ∧ wr = w)
  case atStart => exact ⟨rfl, rfl, rfl, rfl⟩
  case round =>
    obtain ⟨rfl, rfl, rfl, hw⟩ := hrel
    rw [hw]
    clear hw wr
    go_wp2_with fail
    go_ret
    refine ⟨rfl, ?_, (Fr.refl _ w).setCell (.inl (by simp)) _⟩
    unfold CuAt
    rw [set_blk H.out]; rfl

theorem intRow_one (l : List Int) : ∀ y ∈ intRow l, y.length = 1 := by
  intro y hy
  obtain ⟨x, -, rfl⟩ := List.mem_map.1 hy
  rfl
theorem intRow_cell (l : List Int) : ∀ y ∈ intRow l, ∀ c ∈ y, c.oneCell' = true := by
  intro y hy c hc
  obtain ⟨x, -, rfl⟩ := List.mem_map.1 hy
  simp only [List.mem_cons, List.not_mem_nil, or_false] at hc
  rw [hc]; rfl
theorem clk_snoc (i : Nat) (q : Nat → Int) : clk (i + 1) q = clk i q ++ [q i] := by
  unfold clk
  rw [List.range_succ, List.map_append]; rfl

set_option maxRecDepth 100000 in
set_option maxHeartbeats 4000000 in
theorem cuClkR (cb n : Nat) (h8 : n ≤ 8) (q : Nat → Int) (hq : ∀ i, i < n → 0 ≤ q i ∧ q i ≤ 100) (w : World) (h : CuAt cb (smalls n q) false w) :
    Calls Tryz.prog 96 #[.pointer (some ⟨cb, 0, none⟩), .int .i64 n] w fun e w' => ∃ v, e = .returned v ∧ RowAt 3 1 v (intRow (clk n q)) w' ∧ CuAt cb [] false w' ∧ Fr [cb] w w' ∧ (∀ g, v.ownBlock = some g → w.heap.size ≤ g) := by
  have hclt : cb < w.heap.size := lt_of_heap h
  go_enter Tryz.func96, Tryz.ntmps96
  go_wp2_with fail
  go_loopg [5, 6] n (fun gk s5 s6 wr => ∃ (i : Nat), s6 = .int .i64 i ∧ i ≤ n ∧ gk = n - i ∧ CuAt cb ((smalls n q).drop i) false wr ∧ RowAt 3 1 s5 (intRow (clk i q)) wr ∧ Fr [cb] w wr ∧ (∀ g, s5.ownBlock = some g → w.heap.size ≤ g))
  case atStart => exact ⟨0, rfl, by omega, rfl, h, row_nil _ _ _, Fr.refl _ _, by simp [Value.ownBlock]⟩
  case round =>
    clear h
    obtain ⟨i, rfl, hil, hgk, hC, hR, hF, hO⟩ := hrel
    by_cases hlt : i < n
    · have hli : (i : Int) < (n : Int) := by omega
      have hqi := hq i hlt
      have hnn := small_nat hqi.1 hqi.2
      have HS := hide (cuNumR cb (UInt8.ofNat (q i).toNat) (by omega) ((smalls n q).drop i) (by rw [List.getElem?_drop]; exact smalls_at q hlt) (by simp [smalls_len]; omega) wr hC)
      rw [hnn, List.drop_drop] at HS
      have hcb : ∀ g, u5.ownBlock = some g → g ≠ cb := fun g hg => by have := hO g hg; omega
      go_wp2_with fail
      refine HS.out.mono ?_
      rintro e w2 ⟨rfl, hC2, hF2⟩
      have hR2 := hR.kept (w' := w2) (fun g hg => hF2.block g (hR.lt hg) (by simpa using hcb g hg))
      have g3 : w2.grownBy (w2.alloc (.cells #[.int .i64 (q i)] 3)) none := grown_alloc (grown_refl _) _
      have hSr : SrcAt (w2.alloc (.cells #[.int .i64 (q i)] 3)) (.slice (some ⟨w2.heap.size, 0, none⟩) 1 1) (intRow [q i]) := src_new w2 [.int .i64 (q i)] _
      have hR3 := hR2.grown g3
      have hFA := (hF.trans hF2).grown g3 (by simp)
      have lr : (intRow (clk i q)).length = i := by rw [intRow_len, clk_len]
      have l1 : (intRow [q i]).length = 1 := rfl
      go_wp2_with (at_builtin; refine wpList_row Tryz.underlying40 infoInts rfl (by decide) rfl _ _ rfl u5 _ rfl hR3 _ _ rfl hSr (intRow_one _) (intRow_cell _) (by unfold maxLen; omega) (by omega) ?_; intro v5 w5 hR5 hg5 hat)
      go_roundg (n - (i + 1))
      case measure => omega
      case rel =>
        refine ⟨i + 1, by go_num, by omega, rfl, ?_, ?_, hFA.grown hg5 (fun k hk => .inr (hO k hk)), fun g hg => ?_⟩
        · exact (hg5.block cb (by have := g3.size; have := hF2.size; have := hF.size; omega) (fun q => hcb cb q.symm rfl)).trans ((g3.block cb (by have := hF2.size; have := hF.size; omega) (by simp)).trans hC2)
        · rw [clk_snoc]
          have : intRow (clk i q ++ [q i]) = intRow (clk i q) ++ intRow [q i] := by simp [intRow]
          rw [this]; exact hR5
        · rcases hat with hat | hat
          · exact hO g (hat ▸ hg)
          · rw [hat] at hg; cases hg; exact hFA.size
    · obtain rfl : i = n := by omega
      rw [List.drop_of_length_le (by rw [smalls_len]; omega)] at hC
      go_wp2_with fail
      go_ret
      exact ⟨_, rfl, hR, hC, hF, hO⟩

set_option maxRecDepth 100000 in
set_option maxHeartbeats 1000000 in
theorem withinR (xs : List Int) (hxs : ∀ x ∈ xs, x ≤ 100) (hl : xs.length ≤ 1000) (v : Value) (w : World) (hv : RowAt 3 1 v (intRow xs) w) :
    Calls Tryz.prog 97 #[v] w fun e w' => e = .returned (.bool true) ∧ w' = w := by
  obtain ⟨av, cv, rfl, hcv⟩ := hv.value
  rw [intRow_len] at hv hcv ⊢
  go_enter Tryz.func97, Tryz.ntmps97
  go_wp2_with fail
  go_loopg [3] xs.length (fun g s3 wr => ∃ (i : Nat), s3 = .int .i64 i ∧ i ≤ xs.length ∧ g = xs.length - i ∧ wr = w)
  case atStart => exact ⟨0, rfl, by omega, rfl, rfl⟩
  case round =>
    obtain ⟨i, rfl, hil, hgk, hw⟩ := hrel
    rw [hw]
    clear hw wr
    by_cases hlt : i < xs.length
    · have hli : (i : Int) < (xs.length : Int) := by omega
      obtain ⟨x, hx⟩ : ∃ x, xs[i]? = some x := ⟨xs[i], by simp [hlt]⟩
      have hxb := hxs x (List.mem_of_getElem? hx)
      obtain ⟨g1, c1, cur1, hv1, -, hb1, hx1⟩ := hv.cell (i := i) (intRow_at hx)
      rw [intRow_len] at hv1
      cases hv1
      have k1 : w.cell? ⟨g1, i, none⟩ = some (.int .i64 x) := (cell_blk hb1 _).trans (by simpa using hx1 0 _ rfl)
      clear hx1
      have hxn : ¬ (100 : Int) < x := by omega
      go_wp2_with fail
      go_roundg (xs.length - (i + 1))
      case measure => omega
      case rel => exact ⟨i + 1, by go_num, by omega, rfl, rfl⟩
    · go_wp2_with fail
      go_ret
      exact ⟨rfl, rfl⟩

end Go.Proofs.YtachmkhbbbmioaaGreat

namespace Go.Proofs.YtachmkhbbbmioaaGreat
open Go.RowKit Go.Shelf

theorem str_mid (l : List UInt8) (i j : Nat) (hij : i ≤ j) (hj : j ≤ l.length) (w : World) : (Instr.slice 9 (str l) (some (.int .i64 (i : Int))) (some (.int .i64 (j : Int))) none).run Tryz.prog w = .ok (str ((l.drop i).take (j - i))) w := by
  have := run_slice_string w 9 ⟨l.toArray⟩ .i64 .i64 i j Tryz.underlying9 (by omega) (by omega) (by simp [ByteArray.size]; omega)
  rw [this]
  simp only [ByteArray.extract_mk, Int.toNat_natCast]

theorem set3 {w : World} {B b o : Nat} {v0 v1 v2 : Value} (h : b ≠ B) : (((w.setCell ⟨B, 0, none⟩ v0).setCell ⟨B, 1, none⟩ v1).setCell ⟨B, 2, none⟩ v2).cell? ⟨b, o, none⟩ = w.cell? ⟨b, o, none⟩ := by
  rw [cell_set_ne h, cell_set_ne h, cell_set_ne h]

theorem set3_blk {w : World} {B : Nat} {e : TypeId} {a0 a1 a2 v0 v1 v2 : Value} (h : w.heap[B]? = some (.cells #[a0, a1, a2] e)) : (((w.setCell ⟨B, 0, none⟩ v0).setCell ⟨B, 1, none⟩ v1).setCell ⟨B, 2, none⟩ v2).heap[B]? = some (.cells #[v0, v1, v2] e) := by
  have h0 := set_blk h (i := 0) (v := v0)
  have h1 := set_blk h0 (i := 1) (v := v1)
  refine (set_blk h1 (i := 2) (v := v2)).trans ?_
  simp

set_option maxRecDepth 100000 in
set_option maxHeartbeats 4000000 in
/-- A digest is a frame, by the document. -/
theorem readR (n : Nat) (h1 : 1 ≤ n) (h8 : n ≤ 8) (s : Int) (hs1 : 1 ≤ s) (hsn : s ≤ n) (q : Nat → Int) (hq : ∀ i, i < n → 0 ≤ q i ∧ q i ≤ 100) (w : World) :
    Calls Tryz.prog 69 #[str (digest n s q), .int .i64 n] w fun e w' => ∃ v, e = .returned (.tuple #[.agg #[.int .i64 s, v, .slice none 0 0], .bool true]) ∧ RowAt 3 1 v (intRow (clk n q)) w' ∧ w.grownBy w' none := by
  have hvb : vbs (s :: clk n q) = UInt8.ofNat s.toNat :: smalls n q := by
    rw [show vbs (s :: clk n q) = vb s.toNat ++ vbs (clk n q) from rfl, smalls_vbs n q hq, vb_small (by omega)]; rfl
  have hsl := smalls_len n q
  have hdl : (digest n s q).length = n + 6 := by unfold digest; rw [seal_len, hvb]; simp; omega
  have hnn := small_nat (x := s) (by omega) (by omega)
  have hN := fun (cb : Nat) (w : World) (h : CuAt cb (UInt8.ofNat s.toNat :: smalls n q) false w) => cuNumR cb (UInt8.ofNat s.toNat) (by omega) (UInt8.ofNat s.toNat :: smalls n q) rfl (by simp; omega) w h
  rw [hnn] at hN
  simp only [List.drop_succ_cons, List.drop_zero] at hN
  have hC := fun (cb : Nat) (w : World) (h : CuAt cb (smalls n q) false w) => cuClkR cb n h8 q hq w h
  have hWi := fun (v : Value) (w : World) (hv : RowAt 3 1 v (intRow (clk n q)) w) => withinR (clk n q) (fun x hx => by obtain ⟨i, hi, rfl⟩ := clk_mem hx; exact (hq i hi).2) (by rw [clk_len]; omega) v w hv
  have hWr := fun (v vo : Value) (w : World) (hv : RowAt 3 1 v (intRow (clk n q)) w) => writeDigR s (by omega) (by omega) n h8 q hq v vo w hv
  have hcut : ∀ w, (Instr.slice 9 (str (digest n s q)) (some (.int .i64 1)) (some (.int .i64 ((n : Int) + 2))) none).run Tryz.prog w = .ok (str (UInt8.ofNat s.toNat :: smalls n q)) w := fun w => by
    have := str_mid (digest n s q) 1 (n + 2) (by omega) (by omega) w
    have e : ((n + 2 : Nat) : Int) = (n : Int) + 2 := by omega
    rw [e] at this
    rw [show (.int .i64 (1 : Int) : Value) = .int .i64 ((1 : Nat) : Int) from rfl, this]
    congr 3
    unfold digest sealB
    rw [hvb]
    simp only [List.cons_append, List.drop_succ_cons, List.drop_zero]
    have hl2 : n + 2 - 1 = (UInt8.ofNat s.toNat :: smalls n q).length := by rw [List.length_cons, hsl]; omega
    rw [hl2, ← List.cons_append]
    exact List.take_left
  have hix : ∀ w, (Instr.index 9 (str (digest n s q)) (.int .i64 0)).run Tryz.prog w = .ok (.int .u8 68) w := fun w => sindex (digest n s q) 0 68 rfl w
  generalize UInt8.ofNat s.toNat :: smalls n q = L0 at hN hcut
  generalize smalls n q = L1 at hN hC hsl
  generalize hDD : digest n s q = D at hdl hWr hcut hix ⊢
  have hD1 : (D.length : Int) = (n : Int) + 6 := by omega
  have hw1 : IntKind.i64.wrap ((n : Int) + 6 - 4) = (n : Int) + 2 := by rw [IntKind.wrap_i64]; omega
  have hd1 : ¬ (120 : Int) < (n : Int) + 6 := by omega
  have hd2 : ¬ ((n : Int) + 6) < 6 := by omega
  have hd3 : ¬ s < 1 := by omega
  have hd4 : ¬ (n : Int) < s := by omega
  have HN := hide hN
  have HC := hide hC
  have HWi := hide hWi
  have HWr := hide hWr
  clear hN hC hWi hWr hvb hnn hq hsl hDD
  go_enter Tryz.func69, Tryz.ntmps69
  go_upto_region 5 with fail
  have g1 : w.grownBy (((w.alloc (.cells #[.int .i64 0, .slice none 0 0, .slice none 0 0] 84)).alloc (.cells #[.int .i64 0, .slice none 0 0, .slice none 0 0] 84)).alloc (.cells #[str L0, .bool false] 160)) none := grown_alloc (grown_alloc (grown_alloc (grown_refl _) _) _) _
  have kR : (((w.alloc (.cells #[.int .i64 0, .slice none 0 0, .slice none 0 0] 84)).alloc (.cells #[.int .i64 0, .slice none 0 0, .slice none 0 0] 84)).alloc (.cells #[str L0, .bool false] 160)).heap[w.heap.size]? = some (.cells #[.int .i64 0, .slice none 0 0, .slice none 0 0] 84) := by simp only [heap_alloc_at, World.size_alloc]; simp; omega
  have kF : (((w.alloc (.cells #[.int .i64 0, .slice none 0 0, .slice none 0 0] 84)).alloc (.cells #[.int .i64 0, .slice none 0 0, .slice none 0 0] 84)).alloc (.cells #[str L0, .bool false] 160)).heap[w.heap.size + 1]? = some (.cells #[.int .i64 0, .slice none 0 0, .slice none 0 0] 84) := by simp only [heap_alloc_at, World.size_alloc]; simp
  have kC : (((w.alloc (.cells #[.int .i64 0, .slice none 0 0, .slice none 0 0] 84)).alloc (.cells #[.int .i64 0, .slice none 0 0, .slice none 0 0] 84)).alloc (.cells #[str L0, .bool false] 160)).heap[w.heap.size + 1 + 1]? = some (.cells #[str L0, .bool false] 160) := by simp only [heap_alloc_at, World.size_alloc]; simp
  generalize (((w.alloc (.cells #[.int .i64 0, .slice none 0 0, .slice none 0 0] 84)).alloc (.cells #[.int .i64 0, .slice none 0 0, .slice none 0 0] 84)).alloc (.cells #[str L0, .bool false] 160)) = w1 at g1 kR kF kC ⊢
  obtain ⟨b4, hb4⟩ : ∃ b, w.heap.size = b := ⟨_, rfl⟩
  rw [hb4] at kR kF kC ⊢
  have HN2 := hide (HN.out (b4 + 1 + 1) w1 kC)
  go_wp2_with fail
  refine HN2.out.mono ?_
  rintro e w2 ⟨rfl, hC2, hF2⟩
  have kR2 := hF2.blk kR (by simp; omega)
  have kF2 := hF2.blk kF (by simp)
  have hFA : Fr [] w w2 := (Fr.ofGrown g1).after hF2 (fun x hx => .inr (by simp at hx; omega))
  have d0 : w2.cell? ⟨b4 + 1, 0, none⟩ = some (.int .i64 0) := cell_blk kF2 0
  have f0 : w2.frozen? ⟨b4 + 1, 0, none⟩ = false := frozen_blk kF2 0
  clear HN HN2 kR kF kC g1 hF2
  go_upto_region 8 with fail
  have kR3 : (w2.setCell ⟨b4 + 1, 0, none⟩ (.int .i64 s)).heap[b4]? = some (.cells #[.int .i64 0, .slice none 0 0, .slice none 0 0] 84) := by rw [Below.heap_setCell _ _ _ _ (by simp)]; exact kR2
  have kF3 : (w2.setCell ⟨b4 + 1, 0, none⟩ (.int .i64 s)).heap[b4 + 1]? = some (.cells #[.int .i64 s, .slice none 0 0, .slice none 0 0] 84) := by rw [set_blk kF2]; rfl
  have kC3 : CuAt (b4 + 1 + 1) L1 false (w2.setCell ⟨b4 + 1, 0, none⟩ (.int .i64 s)) := by unfold CuAt at hC2 ⊢; rw [Below.heap_setCell _ _ _ _ (by simp)]; exact hC2
  have hFB : Fr [] w (w2.setCell ⟨b4 + 1, 0, none⟩ (.int .i64 s)) := hFA.setCell (.inr (by simp; omega)) _
  generalize (w2.setCell ⟨b4 + 1, 0, none⟩ (.int .i64 s)) = w3 at kR3 kF3 kC3 hFB ⊢
  clear d0 f0 kR2 kF2 hC2 hFA
  have HC2 := hide (HC.out (b4 + 1 + 1) w3 kC3)
  go_wp2_with fail
  refine HC2.out.mono ?_
  rintro e w4 ⟨vq, rfl, hR4, hC4, hF4, hO4⟩
  have kR4 := hF4.blk kR3 (by simp; omega)
  have kF4 := hF4.blk kF3 (by simp)
  have hFC : Fr [] w w4 := hFB.after hF4 (fun x hx => .inr (by simp at hx; omega))
  have d1 : w4.cell? ⟨b4 + 1, 1, none⟩ = some (.slice none 0 0) := cell_blk kF4 1
  have f1 : w4.frozen? ⟨b4 + 1, 1, none⟩ = false := frozen_blk kF4 1
  have hb3 : b4 + 1 < w3.heap.size := lt_of_heap kF3
  clear HC HC2 kR3 kF3 kC3 hFB hF4
  obtain ⟨aq, cq, rfl, -⟩ := hR4.value
  rw [intRow_len, clk_len] at hR4 hO4 ⊢
  go_upto_region 9 with fail
  have kR5 : (w4.setCell ⟨b4 + 1, 1, none⟩ (.slice aq n cq)).heap[b4]? = some (.cells #[.int .i64 0, .slice none 0 0, .slice none 0 0] 84) := by rw [Below.heap_setCell _ _ _ _ (by simp)]; exact kR4
  have kF5 : (w4.setCell ⟨b4 + 1, 1, none⟩ (.slice aq n cq)).heap[b4 + 1]? = some (.cells #[.int .i64 s, .slice aq n cq, .slice none 0 0] 84) := by rw [set_blk kF4]; rfl
  have kC5 : CuAt (b4 + 1 + 1) [] false (w4.setCell ⟨b4 + 1, 1, none⟩ (.slice aq n cq)) := by unfold CuAt at hC4 ⊢; rw [Below.heap_setCell _ _ _ _ (by simp)]; exact hC4
  have hR5 : RowAt 3 1 (.slice aq n cq) (intRow (clk n q)) (w4.setCell ⟨b4 + 1, 1, none⟩ (.slice aq n cq)) := hR4.kept (fun g hg => Below.heap_setCell _ _ _ _ (by have := hO4 g hg; simp; omega))
  have hFD : Fr [] w (w4.setCell ⟨b4 + 1, 1, none⟩ (.slice aq n cq)) := hFC.setCell (.inr (by simp; omega)) _
  generalize (w4.setCell ⟨b4 + 1, 1, none⟩ (.slice aq n cq)) = w5 at kR5 kF5 kC5 hR5 hFD ⊢
  clear d1 f1 kR4 kF4 hC4 hFC hR4 hO4
  have c0 : w5.cell? ⟨b4 + 1, 0, none⟩ = some (.int .i64 s) := cell_blk kF5 0
  have c1 : w5.cell? ⟨b4 + 1, 1, none⟩ = some (.slice aq n cq) := cell_blk kF5 1
  have c2 : w5.cell? ⟨b4 + 1, 2, none⟩ = some (.slice none 0 0) := cell_blk kF5 2
  have cc : w5.cell? ⟨b4 + 1 + 1, 1, none⟩ = some (.bool false) := cell_blk kC5 1
  have HWi2 := hide (HWi.out _ w5 hR5)
  go_wp2_with fail
  refine HWi2.out.mono ?_
  rintro e w6 ⟨rfl, hw6⟩
  rw [hw6]
  clear hw6 w6 HWi HWi2
  have HWr2 := hide (HWr.out _ (.slice none 0 0) w5.drew (hR5.kept (fun _ _ => rfl)))
  have hDD : (D == D) = true := by simp
  have n1 : b4 + 1 ≠ b4 := by omega
  have n2 : b4 + 1 + 1 ≠ b4 := by omega
  clear HWr
  go_wp2_with fail
  go_region_held3 (fun w' => w'.cell? ⟨b4 + 1, 0, none⟩ = some (.int .i64 s) ∧ w'.cell? ⟨b4 + 1, 1, none⟩ = some (.slice aq n cq) ∧ w'.cell? ⟨b4 + 1, 2, none⟩ = some (.slice none 0 0) ∧ w'.cell? ⟨b4 + 1 + 1, 1, none⟩ = some (.bool false))
    (first | exact ⟨by rw [set3 n1]; exact ck _ _ c0, by rw [set3 n1]; exact ck _ _ c1, by rw [set3 n1]; exact ck _ _ c2, by rw [set3 n2]; exact ck _ _ cc⟩ | exact ⟨by with_reducible exact ck _ _ c0, ck _ _ c1, ck _ _ c2, ck _ _ cc⟩ | go_keep)
    (first | (go_at_call 42; refine HWr2.out.mono ?_; rintro e w7 ⟨rfl, hg⟩; have ck : ∀ (a : Addr) (x : Value), w5.cell? a = some x → w7.cell? a = some x := (fun a x hx => cell_of_grown hx (grown_trans (grown_drew (grown_refl w5)) hg)); have kR7 : w7.heap[b4]? = some (.cells #[.int .i64 0, .slice none 0 0, .slice none 0 0] 84) := (hg.block b4 (lt_of_heap kR5) (by simp)).trans kR5; have r0 : w7.cell? ⟨b4, 0, none⟩ = some (.int .i64 0) := cell_blk kR7 0; have r1 : w7.cell? ⟨b4, 1, none⟩ = some (.slice none 0 0) := cell_blk kR7 1; have r2 : w7.cell? ⟨b4, 2, none⟩ = some (.slice none 0 0) := cell_blk kR7 2; have z0 : w7.frozen? ⟨b4, 0, none⟩ = false := frozen_blk kR7 0; have z1 : w7.frozen? ⟨b4, 1, none⟩ = false := frozen_blk kR7 1; have z2 : w7.frozen? ⟨b4, 2, none⟩ = false := frozen_blk kR7 2))
  all_goals
    go_wp2_with fail
    have hF8 : Fr [] w (((w7.setCell ⟨b4, 0, none⟩ (.int .i64 s)).setCell ⟨b4, 1, none⟩ (.slice aq n cq)).setCell ⟨b4, 2, none⟩ (.slice none 0 0)) := by
      iterate 3 refine Fr.setCell ?_ (.inr (by simp; omega)) _
      exact (hFD.drew).grown hg (by simp)
    have k8 : (((w7.setCell ⟨b4, 0, none⟩ (.int .i64 s)).setCell ⟨b4, 1, none⟩ (.slice aq n cq)).setCell ⟨b4, 2, none⟩ (.slice none 0 0)).heap[b4]? = some (.cells #[.int .i64 s, .slice aq n cq, .slice none 0 0] 84) := set3_blk kR7
    have hR8 : RowAt 3 1 (.slice aq n cq) (intRow (clk n q)) (((w7.setCell ⟨b4, 0, none⟩ (.int .i64 s)).setCell ⟨b4, 1, none⟩ (.slice aq n cq)).setCell ⟨b4, 2, none⟩ (.slice none 0 0)) := by
      have hx := (hR5.kept (w' := w5.drew) (fun _ _ => rfl)).grown hg
      refine hx.kept (fun g hg2 => ?_)
      have hne : g ≠ b4 := fun e => hx.neBlk kR7 (by decide) (e ▸ hg2)
      iterate 3 rw [Below.heap_setCell _ _ _ _ hne]
    generalize (((w7.setCell ⟨b4, 0, none⟩ (.int .i64 s)).setCell ⟨b4, 1, none⟩ (.slice aq n cq)).setCell ⟨b4, 2, none⟩ (.slice none 0 0)) = w8 at hF8 k8 hR8 ⊢
    clear r0 r1 r2 z0 z1 z2
    have e0 : w8.cell? ⟨b4, 0, none⟩ = some (.int .i64 s) := cell_blk k8 0
    have e1 : w8.cell? ⟨b4, 1, none⟩ = some (.slice aq n cq) := cell_blk k8 1
    have e2 : w8.cell? ⟨b4, 2, none⟩ = some (.slice none 0 0) := cell_blk k8 2
    exact bodyPost_ret (v := .tuple #[.agg #[.int .i64 s, .slice aq n cq, .slice none 0 0], .bool true]) (by simp [results, Tryz.results69, go_sem, e0, e1, e2]) rfl ⟨_, rfl, hR8, hF8.toGrown⟩

end Go.Proofs.YtachmkhbbbmioaaGreat
