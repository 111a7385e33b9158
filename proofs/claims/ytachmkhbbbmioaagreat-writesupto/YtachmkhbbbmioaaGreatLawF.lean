import Derived.Test.YtachmkhbbbmioaaGreatLawE
namespace Go.Proofs.YtachmkhbbbmioaaGreat
open Go.RowKit Go.Shelf

/-- An act of the script, as it lies in the caller's memory. -/
def ActAt (w : World) (b off i : Nat) (k C A B : Int) (s : ByteArray) : Prop :=
  w.cell? ⟨b, off + i * 5, none⟩ = some (.int .i64 k) ∧ w.cell? ⟨b, off + i * 5 + 1, none⟩ = some (.int .i64 C) ∧ w.cell? ⟨b, off + i * 5 + 2, none⟩ = some (.int .i64 A) ∧ w.cell? ⟨b, off + i * 5 + 3, none⟩ = some (.int .i64 B) ∧ w.cell? ⟨b, off + i * 5 + 4, none⟩ = some (.string s) ∧
    -9223372036854775808 ≤ C ∧ C ≤ 9223372036854775807

theorem LawAt.init (w : World) : LawAt w.heap.size w.heap.size (.slice none 0 0) (.slice none 0 0) [] [] (w.alloc (.cells #[.slice none 0 0, .slice none 0 0, .slice none 0 0, .slice none 0 0] 33)) := by
  refine ⟨by rw [heap_alloc_at]; simp, row_nil _ _ _, row_nil _ _ _, by simp, by simp, fun _ => 0, ?_, by simp, by simp⟩
  intro k hk
  simp only [lawOwn, Value.ownBlock, Option.toList_none, List.append_nil, List.mem_cons, List.not_mem_nil, or_false] at hk
  subst hk
  exact ⟨rfl, Nat.le_refl _⟩

set_option maxRecDepth 100000 in
set_option maxHeartbeats 4000000 in
theorem plays_any (c : Int) (hc1 : -9223372036854775808 ≤ c) (hc2 : c ≤ 9223372036854775807) (a : Option Addr) (len cap : Nat) (hlen : len ≤ 1048576) (w : World)
    (hs : ∀ i, i < len → ∃ b off k C A B s, a = some ⟨b, off, none⟩ ∧ b < w.heap.size ∧ ActAt w b off i k C A B s) :
    Calls Tryz.prog 11 #[.int .i64 c, .slice a len cap, .int .i64 6, .bool false] w fun e w' => e = .returned (.bool true) ∧ Below w.heap.size w w' := by
  have hp8 := pk_lt c (n := 8) (by omega)
  have hPk := fun w => pickL c 8 (by omega) (by omega) hc1 hc2 w
  generalize hq : pk c 8 = q at hp8 hPk
  clear hq
  have hL0 := LawAt.init w
  have hB0 : Below w.heap.size w (w.alloc (.cells #[.slice none 0 0, .slice none 0 0, .slice none 0 0, .slice none 0 0] 33)) := (Below.refl _ w).grown (grown_alloc (grown_refl _) _) (Nat.le_refl _) (by simp)
  go_enter Tryz.func11, Tryz.ntmps11
  go_upto_region 3 with (go_at_call 12; refine (hPk _).mono ?_; rintro e w' ⟨rfl, hw⟩; rw [hw]; clear hw w')
  obtain ⟨n, hn⟩ : ∃ n : Nat, 1 + (q : Int) = (n : Int) := ⟨1 + q, by omega⟩
  rw [hn]
  generalize (w.alloc (.cells #[.slice none 0 0, .slice none 0 0, .slice none 0 0, .slice none 0 0] 33)) = w1 at hL0 hB0 ⊢
  have hn8 : 1 ≤ n ∧ n ≤ 8 := by omega
  clear hn hPk hp8
  obtain ⟨base, hbase⟩ : ∃ base, w.heap.size = base := ⟨_, rfl⟩
  obtain ⟨wb, hwb⟩ : ∃ wb, w.heap.size = wb := ⟨_, rfl⟩
  have hL1 : LawAt base wb (.slice none 0 0) (.slice none 0 0) [] [] w1 := by subst hbase hwb; exact hL0
  rw [hbase] at hB0
  rw [hwb]
  go_wp2_with fail
  go_loopg [11] n (fun gk s11 wr => ∃ (i : Nat) (vl : Value) (prs : List Pr), s11 = .int .i64 i ∧ 1 ≤ i ∧ i ≤ n + 1 ∧ gk = n + 1 - i ∧ prs.length + 1 = i ∧ LawAt base wb vl (.slice none 0 0) prs [] wr ∧ Below base w wr)
  case atStart => exact ⟨1, _, [], rfl, by omega, by omega, by omega, rfl, hL1, hB0⟩
  case round =>
    clear hL1 hB0
    obtain ⟨i, vl, prs, rfl, hi1, hin, hgk, hpl, hL, hB⟩ := hrel
    have hbw : base ≤ wr.heap.size := by rw [← hbase]; exact hB.size
    by_cases hlt : i ≤ n
    · have hli : (i : Int) ≤ (n : Int) := by omega
      have hC := hide (begins_in base wb n i vl _ prs [] wr hL hbw (by omega) (by omega) (by omega) (by omega))
      go_wp2_with fail
      refine hC.out.mono ?_
      rintro e w2 ⟨rfl, vl', x, hL2, hB2⟩
      go_wp2_with fail
      go_roundg (n + 1 - (i + 1))
      case measure => omega
      case rel => exact ⟨i + 1, vl', prs ++ [x], by go_num, by omega, by omega, rfl, by simp; omega, hL2, hB.trans hB2⟩
    · have hpn : prs.length = n := by omega
      have hC : Hid (Calls Tryz.prog 13 #[.pointer (some ⟨wb, 0, none⟩), .int .i64 2, .int .i64 1, .bool true] wr fun e w' => e = .returned (.bool true) ∧ ∃ vl' x, LawAt base wb vl' (.slice none 0 0) (prs ++ [x]) [] w' ∧ Below base wr w') := hide (begins_in base wb 2 1 vl _ prs [] wr hL hbw (by omega) (by omega) (by omega) (by omega))
      go_wp2_with fail
      refine hC.out.mono ?_
      rintro e w2 ⟨rfl, vl', x, hL2, hB2⟩
      have hB3 := hB.trans hB2
      have hP3 : (prs ++ [x]).length = n + 1 := by simp; omega
      generalize prs ++ [x] = P at hL2 hP3
      clear hB2 hB hL hC hpl hgk hin hi1 hlt hpn hbw
      obtain ⟨m, hm⟩ : ∃ m, n + 1 = m := ⟨_, rfl⟩
      rw [hm] at hP3
      obtain ⟨x0, hx0⟩ : ∃ x0, P[0]? = some x0 := ⟨P[0], by simp⟩
      obtain ⟨gl, cl, cur, hvl, -, -, -⟩ := hL2.l.cell (i := 0) (x := twoCells x0) (by simp [hx0])
      rw [List.length_map, hP3] at hvl
      subst hvl
      clear hx0
      have c0 : w2.cell? ⟨wb, 0, none⟩ = some (.slice (some ⟨gl, 0, none⟩) m cl) := cell_blk hL2.cp 0
      have hne : ((m : Int) != (n : Int) + 1) = false := by simp; omega
      go_wp2_with fail
      clear c0 hne
      have HS := hide hs
      clear hs
      go_loopg [13, 14] len (fun gk s13 s14 wr => ∃ (i : Nat) (vi : Value) (prs : List Pr) (irs : List IR), s13 = .bool true ∧ s14 = .int .i64 i ∧ i ≤ len ∧ gk = len - i ∧ prs.length = m ∧ irs.length ≤ i ∧ LawAt base wb (.slice (some ⟨gl, 0, none⟩) m cl) vi prs irs wr ∧ Below base w wr)
      case atStart => exact ⟨0, _, P, [], rfl, rfl, by omega, rfl, hP3, by simp, hL2, hB3⟩
      case round =>
        clear hL2 hB3 hP3
        obtain ⟨i, vi, prs, irs, rfl, rfl, hil, hgk, hpl, hir, hL, hB⟩ := hrel
        have hbr : base ≤ wr.heap.size := by rw [← hbase]; exact hB.size
        by_cases hlt : i < len
        · have hli : (i : Int) < (len : Int) := by omega
          obtain ⟨b, off, k, C, A, B, s, hae, hbw, e0, e1, e2, e3, e4, hC1, hC2⟩ := HS.out i hlt
          have kc : ∀ (o : Nat) (v : Value), w.cell? ⟨b, o, none⟩ = some v → wr.cell? ⟨b, o, none⟩ = some v := fun o v hv => (hB.cell (p := ⟨b, o, none⟩) (by rw [← hbase]; exact hbw)).trans hv
          have f0 := kc _ _ e0
          have f1 := kc _ _ e1
          have f2 := kc _ _ e2
          have f3 := kc _ _ e3
          have f4 := kc _ _ e4
          clear e0 e1 e2 e3 e4 kc HS
          subst hae
          by_cases hskip : 6 < k ∧ k ≠ 11
          · obtain ⟨hk6, hk11⟩ := hskip
            have n11 : (k != 11) = true := by simp [hk11]
            by_cases hk12 : k = 12
            · subst hk12
              go_wp2_with fail
              go_roundg (len - (i + 1))
              case measure => omega
              case rel => exact ⟨i + 1, vi, prs, irs, rfl, by go_num, by omega, rfl, hpl, by omega, hL, hB⟩
            · have n12 : (k != 12) = true := by simp [hk12]
              go_wp2_with fail
              go_roundg (len - (i + 1))
              case measure => omega
              case rel => exact ⟨i + 1, vi, prs, irs, rfl, by go_num, by omega, rfl, hpl, by omega, hL, hB⟩
          · have hk : k ≤ 6 ∨ k = 11 := by omega
            have HA := hide (act_any base wb (.slice (some ⟨gl, 0, none⟩) m cl) vi prs irs k C A B s wr hL hbr (by omega) (by omega) (by omega) hC1 hC2 hk)
            clear hskip
            rcases hk with hk6 | hk11
            · have n8 : (k == 8) = false := by simp; omega
              go_upto_region 18 with fail
              go_wp2_with fail
              refine HA.out.mono ?_
              rintro e w3 ⟨rfl, vi', prs', irs', hp', hi', hL3, hB3⟩
              have HLk := hide (looks_any base wb _ vi' prs' irs' w3 hL3 (by omega))
              go_wp2_with fail
              refine HLk.out.mono ?_
              rintro e w4 ⟨rfl, hB4⟩
              go_wp2_with fail
              go_roundg (len - (i + 1))
              case measure => omega
              case rel => exact ⟨i + 1, vi', prs', irs', rfl, by go_num, by omega, rfl, hp'.trans hpl, by omega, hL3.below hB4, (hB.trans hB3).trans (hB4.mono (Nat.le_trans hbr hB3.size))⟩
            · subst hk11
              go_upto_region 18 with fail
              go_wp2_with fail
              refine HA.out.mono ?_
              rintro e w3 ⟨rfl, vi', prs', irs', hp', hi', hL3, hB3⟩
              have HLk := hide (looks_any base wb _ vi' prs' irs' w3 hL3 (by omega))
              go_wp2_with fail
              refine HLk.out.mono ?_
              rintro e w4 ⟨rfl, hB4⟩
              go_wp2_with fail
              go_roundg (len - (i + 1))
              case measure => omega
              case rel => exact ⟨i + 1, vi', prs', irs', rfl, by go_num, by omega, rfl, hp'.trans hpl, by omega, hL3.below hB4, (hB.trans hB3).trans (hB4.mono (Nat.le_trans hbr hB3.size))⟩
        · obtain rfl : i = len := by omega
          clear HS
          have hirl : irs.length ≤ i := hir
          go_wp2_with fail
          go_loopg [13, 17] m (fun gk s13 s17 wr => ∃ (j : Nat) (vi : Value) (irs : List IR), s13 = .bool true ∧ s17 = .int .i64 j ∧ j ≤ m ∧ gk = m - j ∧ irs.length ≤ i + 4 * j ∧ LawAt base wb (.slice (some ⟨gl, 0, none⟩) m cl) vi prs irs wr ∧ Below base w wr)
          case atStart => exact ⟨0, vi, irs, rfl, rfl, by omega, rfl, by omega, hL, hB⟩
          case round =>
            clear hL hB hbr hgk hir hirl
            obtain ⟨j, vi, irs, rfl, rfl, hjm, hgk3, hir, hL, hB⟩ := hrel
            have hbr : base ≤ wr.heap.size := by rw [← hbase]; exact hB.size
            have c0 : wr.cell? ⟨wb, 0, none⟩ = some (.slice (some ⟨gl, 0, none⟩) m cl) := cell_blk hL.cp 0
            by_cases hlt : j < m
            · have hli : (j : Int) < (m : Int) := by omega
              go_wp2_with fail
              clear c0
              go_loopg [13, 18] 4 (fun gk s13 s18 wr => ∃ (k : Nat) (vi : Value) (irs : List IR), s13 = .bool true ∧ s18 = .int .i64 k ∧ 3 ≤ k ∧ k ≤ 7 ∧ gk = 7 - k ∧ irs.length + 3 ≤ i + 4 * j + k ∧ LawAt base wb (.slice (some ⟨gl, 0, none⟩) m cl) vi prs irs wr ∧ Below base w wr)
              case atStart => exact ⟨3, vi, irs, rfl, rfl, by omega, by omega, rfl, by omega, hL, hB⟩
              case round =>
                clear hL hB hbr hir
                obtain ⟨k, vi, irs, rfl, rfl, hk3, hk7, hgk, hir, hL, hB⟩ := hrel
                have hbr : base ≤ wr.heap.size := by rw [← hbase]; exact hB.size
                have hk7i : (k : Int) ≤ 7 := by omega
                by_cases hk6 : k ≤ 6
                · have hk6i : (k : Int) ≤ 6 := by omega
                  obtain ⟨x', hx⟩ : ∃ x, prs[j]? = some x := ⟨prs[j], by simp [hpl, hlt]⟩
                  have c0 : wr.cell? ⟨wb, 0, none⟩ = some (.slice (some ⟨gl, 0, none⟩) m cl) := cell_blk hL.cp 0
                  obtain ⟨gl', cl', cur, hvl, -, hbl, hcell⟩ := hL.l.cell (i := j) (x := twoCells x') (by simp [hx])
                  rw [List.length_map, hpl] at hvl
                  cases hvl
                  have t0 : wr.cell? ⟨gl, j * 2, none⟩ = some (.pointer (some ⟨x'.cb, 0, none⟩)) := (cell_blk hbl _).trans (hcell 0 _ rfl)
                  have t1 : wr.cell? ⟨gl, j * 2 + 1, none⟩ = some (.pointer (some ⟨x'.yb, 0, none⟩)) := (cell_blk hbl _).trans (hcell 1 _ rfl)
                  have HA := hide (asks_any base wb _ vi prs irs j x' wr hL hx hbr (by omega) k (by omega))
                  clear hcell hx hbl
                  go_wp2_with fail
                  refine HA.out.mono ?_
                  rintro e w3 ⟨rfl, vi', irs', hi', hL3, hB3⟩
                  go_wp2_with fail
                  go_roundg (7 - (k + 1))
                  case measure => omega
                  case rel => exact ⟨k + 1, vi', irs', rfl, by go_num, by omega, by omega, rfl, by omega, hL3, hB.trans hB3⟩
                · have hk6i : ¬ (k : Int) ≤ 6 := by omega
                  have hkd : decide ((k : Int) ≤ 6) = false := by simp; omega
                  go_wp2_with fail
                  go_roundg (m - (j + 1))
                  case measure => omega
                  case rel => exact ⟨j + 1, vi, irs, rfl, by go_num, by omega, rfl, by omega, hL, hB⟩
            · have HLk := hide (looks_any base wb _ vi prs irs wr hL (by omega))
              go_wp2_with fail
              refine HLk.out.mono ?_
              rintro e w4 ⟨rfl, hB4⟩
              go_wp2_with fail
              go_ret
              exact ⟨rfl, by rw [hbase]; exact hB.trans (hB4.mono hbr)⟩

end Go.Proofs.YtachmkhbbbmioaaGreat
