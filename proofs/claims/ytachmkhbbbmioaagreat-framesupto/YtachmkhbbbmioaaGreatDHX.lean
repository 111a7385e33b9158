import Derived.Test.YtachmkhbbbmioaaGreatDFX
namespace Go.Proofs.YtachmkhbbbmioaaGreat
open Go.RowKit Go.Shelf

/-- An act of the script, as it lies in the caller's memory. -/
def ActIn (w : World) (b off i : Nat) (k C A B : Int) (s : ByteArray) : Prop :=
  w.cell? ⟨b, off + i * 5, none⟩ = some (.int .i64 k) ∧ w.cell? ⟨b, off + i * 5 + 1, none⟩ = some (.int .i64 C) ∧ w.cell? ⟨b, off + i * 5 + 2, none⟩ = some (.int .i64 A) ∧ w.cell? ⟨b, off + i * 5 + 3, none⟩ = some (.int .i64 B) ∧ w.cell? ⟨b, off + i * 5 + 4, none⟩ = some (.string s) ∧
    (-9223372036854775808 ≤ C ∧ C ≤ 9223372036854775807) ∧ (-9223372036854775808 ≤ A ∧ A ≤ 9223372036854775807) ∧ (-9223372036854775808 ≤ B ∧ B ≤ 9223372036854775807)

def LS.zero : LS := ⟨.slice none 0 0, .slice none 0 0, .slice none 0 0, .slice none 0 0, [], [], [], []⟩

theorem WAt.init (w : World) : WAt w.heap.size w.heap.size LS.zero (w.alloc (.cells #[.slice none 0 0, .slice none 0 0, .slice none 0 0, .slice none 0 0] 33)) := by
  refine ⟨by rw [heap_alloc_at]; simp [LS.zero], row_nil _ _ _, row_nil _ _ _, row_nil _ _ _, row_nil _ _ _, by simp [LS.zero], by simp [LS.zero], by simp [LS.zero], fun _ => 0, ?_, by simp [LS.zero], by simp [LS.zero], by simp [LS.zero]⟩
  intro k hk
  simp only [LS.own, LS.zero, Value.ownBlock, Option.toList_none, List.append_nil, List.mem_cons, List.not_mem_nil, or_false] at hk
  subst hk
  exact ⟨rfl, Nat.le_refl _⟩

/-- How great the world has become behind so many acts. -/
structure Fits (L : LS) (i : Nat) : Prop where
  irs : L.irs.length ≤ i
  trs : L.trs.length ≤ i
  air : L.air.length ≤ 1000 * i

theorem Fits.next {L L' : LS} {i : Nat} (h : Fits L i) (hn : Next L L' 1000) : Fits L' (i + 1) :=
  ⟨by have := h.irs; have := hn.irs; omega, by have := h.trs; have := hn.trs; omega, by have := h.air; have := hn.air; omega⟩

set_option maxRecDepth 100000 in
set_option maxHeartbeats 8000000 in
theorem plays_d (c : Int) (hc1 : -9223372036854775808 ≤ c) (hc2 : c ≤ 9223372036854775807) (a : Option Addr) (len cap : Nat) (hlen : len ≤ 1048576) (w : World)
    (hs : ∀ i, i < len → ∃ b off k C A B s, a = some ⟨b, off, none⟩ ∧ b < w.heap.size ∧ ActIn w b off i k C A B s) :
    Calls Tryz.prog 11 #[.int .i64 c, .slice a len cap, .int .i64 7, .bool false] w fun e w' => e = .returned (.bool true) ∧ Below w.heap.size w w' := by
  have hp8 := pk_lt c (n := 8) (by omega)
  have hPk := fun w => pickL c 8 (by omega) (by omega) hc1 hc2 w
  generalize hq : pk c 8 = q at hp8 hPk
  clear hq
  have hL0 := WAt.init w
  have hB0 : Below w.heap.size w (w.alloc (.cells #[.slice none 0 0, .slice none 0 0, .slice none 0 0, .slice none 0 0] 33)) := (Below.refl _ w).grown (grown_alloc (grown_refl _) _) (Nat.le_refl _) (by simp)
  go_enter Tryz.func11, Tryz.ntmps11
  go_upto_region 3 with (go_at_call 12; refine (hPk _).mono ?_; rintro e w' ⟨rfl, hw⟩; rw [hw]; clear hw w')
  obtain ⟨n, hn⟩ : ∃ n : Nat, 1 + (q : Int) = (n : Int) := ⟨1 + q, by omega⟩
  rw [hn]
  generalize (w.alloc (.cells #[.slice none 0 0, .slice none 0 0, .slice none 0 0, .slice none 0 0] 33)) = w1 at hL0 hB0 ⊢
  have hn8 : 1 ≤ n ∧ n ≤ 8 := by omega
  clear hn hPk hp8
  obtain ⟨base, hbase⟩ : ∃ base, w.heap.size = base := ⟨_, rfl⟩
  obtain ⟨wb, hwb⟩ : ∃ wb, w.heap.size = wb := ⟨_, rfl⟩
  have hL1 : WAt base wb LS.zero w1 := by subst hbase hwb; exact hL0
  rw [hbase] at hB0
  rw [hwb]
  go_wp2_with fail
  go_loopg [11] n (fun gk s11 wr => ∃ (i : Nat) (L : LS), s11 = .int .i64 i ∧ 1 ≤ i ∧ i ≤ n + 1 ∧ gk = n + 1 - i ∧ L.prs.length + 1 = i ∧ Fits L 0 ∧ WAt base wb L wr ∧ Below base w wr)
  case atStart => exact ⟨1, LS.zero, rfl, by omega, by omega, by omega, rfl, ⟨by simp [LS.zero], by simp [LS.zero], by simp [LS.zero]⟩, hL1, hB0⟩
  case round =>
    clear hL1 hB0
    obtain ⟨i, L, rfl, hi1, hin, hgk, hpl, hft, hL, hB⟩ := hrel
    have hbw : base ≤ wr.heap.size := by rw [← hbase]; exact hB.size
    by_cases hlt : i ≤ n
    · have hli : (i : Int) ≤ (n : Int) := by omega
      have hC := hide (begins_d base wb n i L wr hL hbw (by omega) (by omega) (by omega) (by omega))
      go_wp2_with fail
      refine hC.out.mono ?_
      rintro e w2 ⟨rfl, vl', x, hL2, hB2⟩
      go_wp2_with fail
      go_roundg (n + 1 - (i + 1))
      case measure => omega
      case rel => exact ⟨i + 1, { L with vl := vl', prs := L.prs ++ [x] }, by go_num, by omega, by omega, rfl, by simp; omega, ⟨hft.irs, hft.trs, hft.air⟩, hL2, hB.trans hB2⟩
    · have hpn : L.prs.length = n := by omega
      have hC : Hid (Calls Tryz.prog 13 #[.pointer (some ⟨wb, 0, none⟩), .int .i64 2, .int .i64 1, .bool true] wr fun e w' => e = .returned (.bool true) ∧ ∃ vl' x, WAt base wb { L with vl := vl', prs := L.prs ++ [x] } w' ∧ Below base wr w') := hide (begins_d base wb 2 1 L wr hL hbw (by omega) (by omega) (by omega) (by omega))
      go_wp2_with fail
      refine hC.out.mono ?_
      rintro e w2 ⟨rfl, vl', x, hL2, hB2⟩
      have hB3 := hB.trans hB2
      obtain ⟨L2, hL2e⟩ : ∃ L2 : LS, { L with vl := vl', prs := L.prs ++ [x] } = L2 := ⟨_, rfl⟩
      have hP3 : L2.prs.length = n + 1 := by rw [← hL2e]; simp; omega
      have hft2 : Fits L2 0 := by rw [← hL2e]; exact ⟨hft.irs, hft.trs, hft.air⟩
      rw [hL2e] at hL2
      clear hB2 hB hL hC hpl hgk hin hi1 hlt hpn hbw hL2e hft
      obtain ⟨m, hm⟩ : ∃ m, n + 1 = m := ⟨_, rfl⟩
      rw [hm] at hP3
      obtain ⟨x0, hx0⟩ : ∃ x0, L2.prs[0]? = some x0 := ⟨L2.prs[0], by simp⟩
      obtain ⟨gl, cl, cur, hvl, -, -, -⟩ := hL2.l.cell (i := 0) (x := twoCells x0) (by simp [hx0])
      rw [List.length_map, hP3] at hvl
      clear hx0
      have c0 : w2.cell? ⟨wb, 0, none⟩ = some (.slice (some ⟨gl, 0, none⟩) m cl) := by rw [← hvl]; exact cell_blk hL2.cp 0
      have hne : ((m : Int) != (n : Int) + 1) = false := by simp; omega
      have HV2 := hide hvl
      clear hvl
      go_wp2_with fail
      clear c0 hne
      have HS := hide hs
      clear hs
      go_loopg [13, 14] len (fun gk s13 s14 wr => ∃ (i : Nat) (L : LS), s13 = .bool true ∧ s14 = .int .i64 i ∧ i ≤ len ∧ gk = len - i ∧ L.prs.length = m ∧ Hid (L.vl = .slice (some ⟨gl, 0, none⟩) m cl) ∧ Fits L i ∧ WAt base wb L wr ∧ Below base w wr)
      case atStart => exact ⟨0, L2, rfl, rfl, by omega, rfl, hP3, HV2, hft2, hL2, hB3⟩
      case round =>
        clear hL2 hB3 hP3 HV2 hft2
        obtain ⟨i, L, rfl, rfl, hil, hgk, hpl, HV, hft, hL, hB⟩ := hrel
        have hbr : base ≤ wr.heap.size := by rw [← hbase]; exact hB.size
        have f1 := hft.irs
        have f2 := hft.trs
        have f3 := hft.air
        by_cases hlt : i < len
        · have hli : (i : Int) < (len : Int) := by omega
          obtain ⟨b, off, k, C, A, B, s, hae, hbw, e0, e1, e2, e3, e4, hCb, hAb, hBb⟩ := HS.out i hlt
          have kc : ∀ (o : Nat) (v : Value), w.cell? ⟨b, o, none⟩ = some v → wr.cell? ⟨b, o, none⟩ = some v := fun o v hv => (hB.cell (p := ⟨b, o, none⟩) (by rw [← hbase]; exact hbw)).trans hv
          have f0 := kc _ _ e0
          have f1' := kc _ _ e1
          have f2' := kc _ _ e2
          have f3' := kc _ _ e3
          have f4 := kc _ _ e4
          clear e0 e1 e2 e3 e4 kc HS
          subst hae
          by_cases hskip : 7 < k ∧ k ≠ 11 ∧ k ≠ 12
          · obtain ⟨hk7, hk11, hk12⟩ := hskip
            have n11 : (k != 11) = true := by simp [hk11]
            have n12 : (k != 12) = true := by simp [hk12]
            go_wp2_with fail
            go_roundg (len - (i + 1))
            case measure => omega
            case rel => exact ⟨i + 1, L, rfl, by go_num, by omega, rfl, hpl, HV, ⟨by omega, by omega, by omega⟩, hL, hB⟩
          · have hk : k ≤ 7 ∨ k = 11 ∨ k = 12 := by omega
            have HA := hide (act_d base wb L k C A B s wr hL hbr (by omega) (by omega) (by omega) (by omega) (by omega) hCb.1 hCb.2 hAb.1 hAb.2 hBb.1 hBb.2 hk)
            clear hskip
            rcases hk with hk7 | hk11 | hk12
            · have n8 : (k == 8) = false := by simp; omega
              go_upto_region 18 with fail
              go_wp2_with fail
              refine HA.out.mono ?_
              rintro e w3 ⟨rfl, L', hN, hL3, hB3⟩
              have hft3 := hft.next hN
              have HLk := hide (looks_d base wb L' w3 hL3 (by have := hft3.irs; omega) (by have := hft3.trs; omega))
              go_wp2_with fail
              refine HLk.out.mono ?_
              rintro e w4 ⟨rfl, hB4⟩
              go_wp2_with fail
              go_roundg (len - (i + 1))
              case measure => omega
              case rel => exact ⟨i + 1, L', rfl, by go_num, by omega, rfl, hN.prs.trans hpl, hide (hN.vl.trans HV.out), hft3, hL3.below hB4, (hB.trans hB3).trans (hB4.mono (Nat.le_trans hbr hB3.size))⟩
            · subst hk11
              go_upto_region 18 with fail
              go_wp2_with fail
              refine HA.out.mono ?_
              rintro e w3 ⟨rfl, L', hN, hL3, hB3⟩
              have hft3 := hft.next hN
              have HLk := hide (looks_d base wb L' w3 hL3 (by have := hft3.irs; omega) (by have := hft3.trs; omega))
              go_wp2_with fail
              refine HLk.out.mono ?_
              rintro e w4 ⟨rfl, hB4⟩
              go_wp2_with fail
              go_roundg (len - (i + 1))
              case measure => omega
              case rel => exact ⟨i + 1, L', rfl, by go_num, by omega, rfl, hN.prs.trans hpl, hide (hN.vl.trans HV.out), hft3, hL3.below hB4, (hB.trans hB3).trans (hB4.mono (Nat.le_trans hbr hB3.size))⟩
            · subst hk12
              go_upto_region 18 with fail
              go_wp2_with fail
              refine HA.out.mono ?_
              rintro e w3 ⟨rfl, L', hN, hL3, hB3⟩
              have hft3 := hft.next hN
              have HLk := hide (looks_d base wb L' w3 hL3 (by have := hft3.irs; omega) (by have := hft3.trs; omega))
              go_wp2_with fail
              refine HLk.out.mono ?_
              rintro e w4 ⟨rfl, hB4⟩
              go_wp2_with fail
              go_roundg (len - (i + 1))
              case measure => omega
              case rel => exact ⟨i + 1, L', rfl, by go_num, by omega, rfl, hN.prs.trans hpl, hide (hN.vl.trans HV.out), hft3, hL3.below hB4, (hB.trans hB3).trans (hB4.mono (Nat.le_trans hbr hB3.size))⟩
        · obtain rfl : i = len := by omega
          clear HS
          go_wp2_with fail
          go_loopg [13, 17] m (fun gk s13 s17 wr => ∃ (j : Nat) (L : LS), s13 = .bool true ∧ s17 = .int .i64 j ∧ j ≤ m ∧ gk = m - j ∧ L.prs.length = m ∧ Hid (L.vl = .slice (some ⟨gl, 0, none⟩) m cl) ∧ Fits L (i + 5 * j) ∧ WAt base wb L wr ∧ Below base w wr)
          case atStart => exact ⟨0, L, rfl, rfl, by omega, rfl, hpl, HV, hft, hL, hB⟩
          case round =>
            clear hL hB hbr hgk hft f1 f2 f3 hpl HV
            obtain ⟨j, L, rfl, rfl, hjm, hgk3, hpl, HV, hft, hL, hB⟩ := hrel
            have hbr : base ≤ wr.heap.size := by rw [← hbase]; exact hB.size
            have f1 := hft.irs
            have f2 := hft.trs
            have f3 := hft.air
            have c0 : wr.cell? ⟨wb, 0, none⟩ = some (.slice (some ⟨gl, 0, none⟩) m cl) := by rw [← HV.out]; exact cell_blk hL.cp 0
            by_cases hlt : j < m
            · have hli : (j : Int) < (m : Int) := by omega
              go_wp2_with fail
              clear c0
              go_loopg [13, 18] 5 (fun gk s13 s18 wr => ∃ (k : Nat) (L : LS), s13 = .bool true ∧ s18 = .int .i64 k ∧ 3 ≤ k ∧ k ≤ 8 ∧ gk = 8 - k ∧ L.prs.length = m ∧ Hid (L.vl = .slice (some ⟨gl, 0, none⟩) m cl) ∧ Fits L (i + 5 * j + (k - 3)) ∧ WAt base wb L wr ∧ Below base w wr)
              case atStart => exact ⟨3, L, rfl, rfl, by omega, by omega, rfl, hpl, HV, hft, hL, hB⟩
              case round =>
                clear hL hB hbr hft f1 f2 f3 hpl HV
                obtain ⟨k, L, rfl, rfl, hk3, hk8, hgk, hpl, HV, hft, hL, hB⟩ := hrel
                have hbr : base ≤ wr.heap.size := by rw [← hbase]; exact hB.size
                have f1 := hft.irs
                have f2 := hft.trs
                have f3 := hft.air
                by_cases hk7 : k ≤ 7
                · have hk7i : (k : Int) ≤ 7 := by omega
                  obtain ⟨x', hx⟩ : ∃ x, L.prs[j]? = some x := ⟨L.prs[j], by simp [hpl, hlt]⟩
                  have c0 : wr.cell? ⟨wb, 0, none⟩ = some (.slice (some ⟨gl, 0, none⟩) m cl) := by rw [← HV.out]; exact cell_blk hL.cp 0
                  obtain ⟨gl', cl', cur, hvl, -, hbl, hcell⟩ := hL.l.cell (i := j) (x := twoCells x') (by simp [hx])
                  rw [List.length_map, hpl, HV.out] at hvl
                  cases hvl
                  have t0 : wr.cell? ⟨gl, j * 2, none⟩ = some (.pointer (some ⟨x'.cb, 0, none⟩)) := (cell_blk hbl _).trans (hcell 0 _ rfl)
                  have t1 : wr.cell? ⟨gl, j * 2 + 1, none⟩ = some (.pointer (some ⟨x'.yb, 0, none⟩)) := (cell_blk hbl _).trans (hcell 1 _ rfl)
                  have HA := hide (asks_d base wb L j x' wr hL hx hbr (by omega) (by omega) k (by omega))
                  clear hcell hx hbl
                  go_wp2_with fail
                  refine HA.out.mono ?_
                  rintro e w3 ⟨rfl, L', hN, hpr, hL3, hB3⟩
                  have hft3 := hft.next (hN.mono (by omega))
                  have e8 : i + 5 * j + (k - 3) + 1 = i + 5 * j + (k + 1 - 3) := by omega
                  rw [e8] at hft3
                  go_wp2_with fail
                  go_roundg (8 - (k + 1))
                  case measure => omega
                  case rel => exact ⟨k + 1, L', rfl, by go_num, by omega, by omega, rfl, hN.prs.trans hpl, hide (hN.vl.trans HV.out), hft3, hL3, hB.trans hB3⟩
                · have hk7i : ¬ (k : Int) ≤ 7 := by omega
                  have hkd : decide ((k : Int) ≤ 7) = false := by simp; omega
                  obtain rfl : k = 8 := by omega
                  go_wp2_with fail
                  go_roundg (m - (j + 1))
                  case measure => omega
                  case rel => exact ⟨j + 1, L, rfl, by go_num, by omega, rfl, hpl, HV, by have e8 : i + 5 * (j + 1) = i + 5 * j + (8 - 3) := by { omega }; rw [e8]; exact hft, hL, hB⟩
            · have HLk := hide (looks_d base wb L wr hL (by omega) (by omega))
              go_wp2_with fail
              refine HLk.out.mono ?_
              rintro e w4 ⟨rfl, hB4⟩
              go_wp2_with fail
              go_ret
              exact ⟨rfl, by rw [hbase]; exact hB.trans (hB4.mono hbr)⟩

end Go.Proofs.YtachmkhbbbmioaaGreat

namespace Go.Proofs.YtachmkhbbbmioaaGreat
open Go.RowKit Go.Shelf

/-- A frame of raw numbers that lies in memory. -/
def RawIn (w : World) (b o : Nat) : Prop := ∃ (F Bd : Int) (ac : Option Addr) (nc cc : Nat) (xs : Nat → Int) (ao : Option Addr) (lo co : Nat),
  w.cell? ⟨b, o, none⟩ = some (.int .i64 F) ∧ w.cell? ⟨b, o + 1, none⟩ = some (.slice ac nc cc) ∧ w.cell? ⟨b, o + 2, none⟩ = some (.slice ao lo co) ∧ w.cell? ⟨b, o + 3, none⟩ = some (.int .i64 Bd) ∧
  lo ≤ 200000 ∧ F ≤ 9223372036854775807 ∧ -9223372036854775808 ≤ Bd ∧ Bd ≤ 9223372036854775807 ∧ IntsIn w ac nc xs ∧ OpsIn w ao lo

theorem OpsIn.kept {w w' : World} {a : Option Addr} {len : Nat} (h : OpsIn w a len) (hs : w.heap.size ≤ w'.heap.size) (e : ∀ k, k < w.heap.size → w'.heap[k]? = w.heap[k]?) : OpsIn w' a len := fun i hi => by
  obtain ⟨b, off, ha, hb, y, va, vn, vp, xs, c0, c1, c2, c3, c4, c5, c6, c7, hI, hr⟩ := h i hi
  have kc : ∀ (o : Nat) (v : Value), w.cell? ⟨b, o, none⟩ = some v → w'.cell? ⟨b, o, none⟩ = some v := fun o v hv => (World.cell?_of_block (a := ⟨b, o, none⟩) (e b hb)).trans hv
  exact ⟨b, off, ha, Nat.lt_of_lt_of_le hb hs, y, va, vn, vp, xs, kc _ _ c0, kc _ _ c1, kc _ _ c2, kc _ _ c3, kc _ _ c4, kc _ _ c5, kc _ _ c6, kc _ _ c7, hI.kept hs e, hr⟩

structure FitF (L : LS) (i : Nat) : Prop where
  irs : L.irs.length ≤ i
  trs : L.trs.length ≤ i
  air : L.air.length ≤ 1000 * i

theorem FitF.next {L L' : LS} {i : Nat} (h : FitF L i) (hn : Next L L' 1000) : FitF L' (i + 1) :=
  ⟨by have := h.irs; have := hn.irs; omega, by have := h.trs; have := hn.trs; omega, by have := h.air; have := hn.air; omega⟩

end Go.Proofs.YtachmkhbbbmioaaGreat

namespace Go.Proofs.YtachmkhbbbmioaaGreat
open Go.RowKit Go.Shelf

/-- What Handle leaves of the law's own list of copies. -/
theorem list_kept {base wb : Nat} {L L' : LS} {x : Pr} {w w' : World} {g c : Nat} (h : WAt base wb L w) (hx : L.prs[0]? = some x) (hv : L.vl = .slice (some ⟨g, 0, none⟩) 1 c) (hv' : L'.vl = L.vl) (h' : WAt base wb L' w') (hK : ∀ k, k < w.heap.size → k ≠ wb → k ∉ x.own → L.vt.ownBlock ≠ some k → L.va.ownBlock ≠ some k → w'.heap[k]? = w.heap[k]?) :
    w'.cell? ⟨wb, 0, none⟩ = some (.slice (some ⟨g, 0, none⟩) 1 c) ∧ w'.heap[g]? = w.heap[g]? := by
  have ho : L.vl.ownBlock = some g := by rw [hv]; rfl
  refine ⟨by rw [← hv, ← hv']; exact cell_blk h'.cp 0, hK g (h.l.lt ho) ?_ ?_ ?_ ?_⟩
  · rintro rfl; exact h.l.neBlk h.cp (by decide) ho
  · obtain ⟨ow, o1, o2, -⟩ := h.ow
    intro q
    have h1 := (o1 g (by simp [LS.own, ho])).1
    have h2 := (o2 0 x hx g q).1
    omega
  · exact fun q => h.l.ne h.t (by decide) ho q
  · exact fun q => h.l.ne h.ar (by decide) ho q

set_option maxRecDepth 100000 in
set_option maxHeartbeats 8000000 in
theorem frames_f (c : Int) (hc1 : -9223372036854775808 ≤ c) (hc2 : c ≤ 9223372036854775807) (af : Option Addr) (lf cf : Nat) (ab : Option Addr) (lb cb : Nat) (hlen : lf + lb ≤ 1048576) (w : World)
    (hf : ∀ i, i < lf → ∃ b off, af = some ⟨b, off, none⟩ ∧ b < w.heap.size ∧ RawIn w b (off + i * 4))
    (hs : ∀ i, i < lb → ∃ b off s, ab = some ⟨b, off, none⟩ ∧ b < w.heap.size ∧ w.cell? ⟨b, off + i, none⟩ = some (.string s)) :
    Calls Tryz.prog 5 #[.int .i64 c, .slice af lf cf, .slice ab lb cb] w fun e w' => e = .returned (.bool true) ∧ Below w.heap.size w w' := by
  have hp8 := pk_lt c (n := 8) (by omega)
  have hPk := fun w => pickL c 8 (by omega) (by omega) hc1 hc2 w
  generalize hq : pk c 8 = q at hp8 hPk
  clear hq
  have hL0 := WAt.init w
  have hB0 : Below w.heap.size w (w.alloc (.cells #[.slice none 0 0, .slice none 0 0, .slice none 0 0, .slice none 0 0] 33)) := (Below.refl _ w).grown (grown_alloc (grown_refl _) _) (Nat.le_refl _) (by simp)
  go_enter Tryz.func5, Tryz.ntmps5
  go_upto_region 3 with (go_at_call 12; refine (hPk _).mono ?_; rintro e w' ⟨rfl, hw⟩; rw [hw]; clear hw w')
  obtain ⟨n, hn⟩ : ∃ n : Nat, 1 + (q : Int) = (n : Int) := ⟨1 + q, by omega⟩
  rw [hn]
  generalize (w.alloc (.cells #[.slice none 0 0, .slice none 0 0, .slice none 0 0, .slice none 0 0] 33)) = w1 at hL0 hB0 ⊢
  have hn8 : 1 ≤ n ∧ n ≤ 8 := by omega
  clear hn hPk hp8
  obtain ⟨base, hbase⟩ : ∃ base, w.heap.size = base := ⟨_, rfl⟩
  obtain ⟨wb, hwb⟩ : ∃ wb, w.heap.size = wb := ⟨_, rfl⟩
  have hL1 : WAt base wb LS.zero w1 := by subst hbase hwb; exact hL0
  rw [hbase] at hB0
  rw [hwb]
  have hC : Hid (Calls Tryz.prog 13 #[.pointer (some ⟨wb, 0, none⟩), .int .i64 n, .int .i64 1, .bool true] w1 fun e w' => e = .returned (.bool true) ∧ ∃ vl' x, WAt base wb { LS.zero with vl := vl', prs := LS.zero.prs ++ [x] } w' ∧ Below base w1 w') := hide (begins_d base wb n 1 LS.zero w1 hL1 (by rw [← hbase]; exact hB0.size) (by omega) (by omega) (by omega) (by simp [LS.zero]))
  clear hL1 hL0
  go_wp2_with fail
  refine hC.out.mono ?_
  rintro e w2 ⟨rfl, vl', x, hL2, hB2⟩
  have hB3 := hB0.trans hB2
  obtain ⟨L2, hL2e⟩ : ∃ L2 : LS, { LS.zero with vl := vl', prs := LS.zero.prs ++ [x] } = L2 := ⟨_, rfl⟩
  have hP3 : L2.prs.length = 1 := by rw [← hL2e]; simp [LS.zero]
  have hft2 : FitF L2 0 := by rw [← hL2e]; exact ⟨by simp [LS.zero], by simp [LS.zero], by simp [LS.zero]⟩
  rw [hL2e] at hL2
  clear hB2 hB0 hC hL2e
  obtain ⟨x0, hx0⟩ : ∃ x0, L2.prs[0]? = some x0 := ⟨L2.prs[0], by simp⟩
  obtain ⟨gl, cl, cur, hvl, -, -, -⟩ := hL2.l.cell (i := 0) (x := twoCells x0) (by simp [hx0])
  rw [List.length_map, hP3] at hvl
  clear hx0 x0
  have c0 : w2.cell? ⟨wb, 0, none⟩ = some (.slice (some ⟨gl, 0, none⟩) 1 cl) := by rw [← hvl]; exact cell_blk hL2.cp 0
  have HV2 := hide hvl
  clear hvl
  go_wp2_with fail
  clear c0
  have HF := hide hf
  have HS := hide hs
  clear hf hs
  go_loopg [9, 10] lf (fun gk s9 s10 wr => ∃ (i : Nat) (L : LS), s9 = .bool true ∧ s10 = .int .i64 i ∧ i ≤ lf ∧ gk = lf - i ∧ L.prs.length = 1 ∧ Hid (L.vl = .slice (some ⟨gl, 0, none⟩) 1 cl) ∧ FitF L i ∧ WAt base wb L wr ∧ Below base w wr)
  case atStart => exact ⟨0, L2, rfl, rfl, by omega, rfl, hP3, HV2, hft2, hL2, hB3⟩
  case round =>
    clear hL2 hB3 hP3 HV2 hft2
    obtain ⟨i, L, rfl, rfl, hil, hgk, hpl, HV, hft, hL, hB⟩ := hrel
    have hbr : base ≤ wr.heap.size := by rw [← hbase]; exact hB.size
    have f1 := hft.irs
    have f2 := hft.trs
    have f3 := hft.air
    by_cases hlt : i < lf
    · have hli : (i : Int) < (lf : Int) := by omega
      obtain ⟨b, off, hae, hbw, F, Bd, ac, nc, cc, xs, ao, lo, co, e0, e1, e2, e3, hlo, hF1, hb1, hb2, hI, hO⟩ := HF.out i hlt
      have hbb : b < base := by rw [← hbase]; exact hbw
      have kw : ∀ k, k < w.heap.size → wr.heap[k]? = w.heap[k]? := fun k hk => hB.block k (by rw [← hbase]; exact hk)
      have kc : ∀ (o : Nat) (v : Value), w.cell? ⟨b, o, none⟩ = some v → wr.cell? ⟨b, o, none⟩ = some v := fun o v hv => (hB.cell (p := ⟨b, o, none⟩) hbb).trans hv
      have r0 := kc _ _ e0
      have r1 := kc _ _ e1
      have r2 := kc _ _ e2
      have r3 := kc _ _ e3
      have gd : wr.grownBy wr.drew none := grown_drew (grown_refl wr)
      have hI' := (hI.kept hB.size kw).grown gd
      have hO' := (hO.kept hB.size kw).grown gd
      clear e0 e1 e2 e3 kc HF kw hI hO
      subst hae
      obtain ⟨x', hx⟩ : ∃ x, L.prs[0]? = some x := ⟨L.prs[0], by simp [hpl]⟩
      have HX := hide hx
      have c0 : wr.cell? ⟨wb, 0, none⟩ = some (.slice (some ⟨gl, 0, none⟩) 1 cl) := by rw [← HV.out]; exact cell_blk hL.cp 0
      obtain ⟨gl', cl', cur, hvl, -, hbl, hcell⟩ := hL.l.cell (i := 0) (x := twoCells x') (by simp [hx])
      rw [List.length_map, hpl, HV.out] at hvl
      cases hvl
      have t0 : wr.cell? ⟨gl, 0, none⟩ = some (.pointer (some ⟨x'.cb, 0, none⟩)) := (cell_blk hbl _).trans (by simpa using hcell 0 _ rfl)
      have t1 : wr.cell? ⟨gl, 1, none⟩ = some (.pointer (some ⟨x'.yb, 0, none⟩)) := (cell_blk hbl _).trans (by simpa using hcell 1 _ rfl)
      have HT := hide (textL n hn8.2 F Bd ac nc cc xs ao lo co hlo hF1 hb1 hb2 wr.drew hI' hO')
      have HH := hide (fun (w3 : World) (g3 : wr.grownBy w3 none) (t : List UInt8) => handles_any base wb L 0 x' w3 (hL.grown g3) HX.out (Nat.le_trans hbr g3.size) (by omega) (by omega) t)
      have HLK := hide (fun (w3 w4 : World) (g3 : wr.grownBy w3 none) (L' : LS) (hv' : L'.vl = L.vl) (h' : WAt base wb L' w4) hK => list_kept (w := w3) (w' := w4) (hL.grown g3) HX.out HV.out hv' h' hK)
      clear hcell hx hbl
      go_wp2_with fail
      go_region_held3 (fun w' => w'.cell? ⟨wb, 0, none⟩ = some (.slice (some ⟨gl, 0, none⟩) 1 cl) ∧ w'.cell? ⟨gl, 0, none⟩ = some (.pointer (some ⟨x'.cb, 0, none⟩)) ∧ w'.cell? ⟨gl, 1, none⟩ = some (.pointer (some ⟨x'.yb, 0, none⟩)) ∧ w'.cell? ⟨b, off + i * 4, none⟩ = some (.int .i64 F) ∧ w'.cell? ⟨b, off + i * 4 + 1, none⟩ = some (.slice ac nc cc) ∧ w'.cell? ⟨b, off + i * 4 + 2, none⟩ = some (.slice ao lo co) ∧ w'.cell? ⟨b, off + i * 4 + 3, none⟩ = some (.int .i64 Bd))
        (first | go_keep | exact ⟨kp1, kp2 _ _ t0, kp2 _ _ t1, kp3 _ _ r0, kp3 _ _ r1, kp3 _ _ r2, kp3 _ _ r3⟩)
        (first | (go_at_call 15; refine HT.out.mono ?_; rintro e w3 ⟨t, rfl, g3⟩; have kp1 := cell_of_grown c0 (grown_trans gd g3); have kp2 : ∀ (o : Nat) (v : Value), wr.cell? ⟨gl, o, none⟩ = some v → w3.cell? ⟨gl, o, none⟩ = some v := fun o v hv => cell_of_grown hv (grown_trans gd g3); have kp3 : ∀ (o : Nat) (v : Value), wr.cell? ⟨b, o, none⟩ = some v → w3.cell? ⟨b, o, none⟩ = some v := fun o v hv => cell_of_grown hv (grown_trans gd g3)) | (go_at_call 14; refine (HH.out _ (grown_trans gd g3) t).mono ?_; rintro e w12 ⟨rfl, L', hN', hL', hB', hK'⟩; obtain ⟨kp1, kpg⟩ := HLK.out _ _ (grown_trans gd g3) L' hN'.vl hL' hK'; have kp2 : ∀ (o : Nat) (v : Value), wr.cell? ⟨gl, o, none⟩ = some v → w12.cell? ⟨gl, o, none⟩ = some v := fun o v hv => (World.cell?_of_block (a := ⟨gl, o, none⟩) kpg).trans (cell_of_grown hv (grown_trans gd g3)); have kp3 : ∀ (o : Nat) (v : Value), wr.cell? ⟨b, o, none⟩ = some v → w12.cell? ⟨b, o, none⟩ = some v := fun o v hv => (hB'.cell (p := ⟨b, o, none⟩) hbb).trans (cell_of_grown hv (grown_trans gd g3))))
      all_goals
        go_wp2_with fail
        go_roundg (lf - (i + 1))
        case measure => omega
        case rel => exact ⟨i + 1, L', rfl, by go_num, by omega, rfl, hN'.prs.trans hpl, hide (hN'.vl.trans HV.out), hft.next hN', hL', (hB.grown (grown_trans gd g3) hbr (by simp)).trans hB'⟩
    · obtain rfl : i = lf := by omega
      clear HF
      go_wp2_with fail
      go_loopg [9, 11] lb (fun gk s9 s11 wr => ∃ (j : Nat) (L : LS), s9 = .bool true ∧ s11 = .int .i64 j ∧ j ≤ lb ∧ gk = lb - j ∧ L.prs.length = 1 ∧ Hid (L.vl = .slice (some ⟨gl, 0, none⟩) 1 cl) ∧ FitF L (i + j) ∧ WAt base wb L wr ∧ Below base w wr)
      case atStart => exact ⟨0, L, rfl, rfl, by omega, rfl, hpl, HV, hft, hL, hB⟩
      case round =>
        clear hL hB hbr hgk hft f1 f2 f3 hpl HV
        obtain ⟨j, L, rfl, rfl, hjm, hgk3, hpl, HV, hft, hL, hB⟩ := hrel
        have hbr : base ≤ wr.heap.size := by rw [← hbase]; exact hB.size
        have f1 := hft.irs
        have f2 := hft.trs
        have f3 := hft.air
        by_cases hlt : j < lb
        · have hli : (j : Int) < (lb : Int) := by omega
          obtain ⟨b, off, ⟨⟨sl⟩⟩, hae, hbw, e0⟩ := HS.out j hlt
          have hbb : b < base := by rw [← hbase]; exact hbw
          have r0 : wr.cell? ⟨b, off + j, none⟩ = some (str sl) := (hB.cell (p := ⟨b, off + j, none⟩) hbb).trans e0
          clear e0 HS
          subst hae
          obtain ⟨x', hx⟩ : ∃ x, L.prs[0]? = some x := ⟨L.prs[0], by simp [hpl]⟩
          have HX := hide hx
          have gd : wr.grownBy wr.drew none := grown_drew (grown_refl wr)
          have c0 : wr.cell? ⟨wb, 0, none⟩ = some (.slice (some ⟨gl, 0, none⟩) 1 cl) := by rw [← HV.out]; exact cell_blk hL.cp 0
          obtain ⟨gl', cl', cur, hvl, -, hbl, hcell⟩ := hL.l.cell (i := 0) (x := twoCells x') (by simp [hx])
          rw [List.length_map, hpl, HV.out] at hvl
          cases hvl
          have t0 : wr.cell? ⟨gl, 0, none⟩ = some (.pointer (some ⟨x'.cb, 0, none⟩)) := (cell_blk hbl _).trans (by simpa using hcell 0 _ rfl)
          have t1 : wr.cell? ⟨gl, 1, none⟩ = some (.pointer (some ⟨x'.yb, 0, none⟩)) := (cell_blk hbl _).trans (by simpa using hcell 1 _ rfl)
          have HH := hide (handles_any base wb L 0 x' wr.drew (hL.grown gd) HX.out (Nat.le_trans hbr gd.size) (by omega) (by omega) sl)
          have HLK := hide (fun (w4 : World) (L' : LS) (hv' : L'.vl = L.vl) (h' : WAt base wb L' w4) hK => list_kept (w := wr.drew) (w' := w4) (hL.grown gd) HX.out HV.out hv' h' hK)
          clear hcell hx hbl
          go_wp2_with fail
          go_region_held3 (fun w' => w'.cell? ⟨wb, 0, none⟩ = some (.slice (some ⟨gl, 0, none⟩) 1 cl) ∧ w'.cell? ⟨gl, 0, none⟩ = some (.pointer (some ⟨x'.cb, 0, none⟩)) ∧ w'.cell? ⟨gl, 1, none⟩ = some (.pointer (some ⟨x'.yb, 0, none⟩)) ∧ w'.cell? ⟨b, off + j, none⟩ = some (str sl))
            (first | go_keep | exact ⟨kp1, kp2 _ _ t0, kp2 _ _ t1, kp3 _ _ r0⟩)
            ((go_at_call 14; refine HH.out.mono ?_; rintro e w12 ⟨rfl, L', hN', hL', hB', hK'⟩; obtain ⟨kp1, kpg⟩ := HLK.out _ L' hN'.vl hL' hK'; have kp2 : ∀ (o : Nat) (v : Value), wr.cell? ⟨gl, o, none⟩ = some v → w12.cell? ⟨gl, o, none⟩ = some v := fun o v hv => (World.cell?_of_block (a := ⟨gl, o, none⟩) kpg).trans (cell_of_grown hv gd); have kp3 : ∀ (o : Nat) (v : Value), wr.cell? ⟨b, o, none⟩ = some v → w12.cell? ⟨b, o, none⟩ = some v := fun o v hv => (hB'.cell (p := ⟨b, o, none⟩) hbb).trans (cell_of_grown hv gd)))
          all_goals
            go_wp2_with fail
            go_roundg (lb - (j + 1))
            case measure => omega
            case rel => exact ⟨j + 1, L', rfl, by go_num, by omega, rfl, hN'.prs.trans hpl, hide (hN'.vl.trans HV.out), hft.next hN', hL', (hB.grown gd hbr (by simp)).trans hB'⟩
        · obtain rfl : j = lb := by omega
          clear HS
          go_wp2_with fail
          go_loopg [9, 12] 5 (fun gk s9 s12 wr => ∃ (k : Nat) (L : LS), s9 = .bool true ∧ s12 = .int .i64 k ∧ 3 ≤ k ∧ k ≤ 8 ∧ gk = 8 - k ∧ L.prs.length = 1 ∧ Hid (L.vl = .slice (some ⟨gl, 0, none⟩) 1 cl) ∧ FitF L (i + j + (k - 3)) ∧ WAt base wb L wr ∧ Below base w wr)
          case atStart => exact ⟨3, L, rfl, rfl, by omega, by omega, rfl, hpl, HV, hft, hL, hB⟩
          case round =>
            clear hL hB hbr hft f1 f2 f3 hpl HV
            obtain ⟨k, L, rfl, rfl, hk3, hk8, hgk, hpl, HV, hft, hL, hB⟩ := hrel
            have hbr : base ≤ wr.heap.size := by rw [← hbase]; exact hB.size
            have f1 := hft.irs
            have f2 := hft.trs
            have f3 := hft.air
            by_cases hk7 : k ≤ 7
            · have hk7i : (k : Int) ≤ 7 := by omega
              obtain ⟨x', hx⟩ : ∃ x, L.prs[0]? = some x := ⟨L.prs[0], by simp [hpl]⟩
              have c0 : wr.cell? ⟨wb, 0, none⟩ = some (.slice (some ⟨gl, 0, none⟩) 1 cl) := by rw [← HV.out]; exact cell_blk hL.cp 0
              obtain ⟨gl', cl', cur, hvl, -, hbl, hcell⟩ := hL.l.cell (i := 0) (x := twoCells x') (by simp [hx])
              rw [List.length_map, hpl, HV.out] at hvl
              cases hvl
              have t0 : wr.cell? ⟨gl, 0, none⟩ = some (.pointer (some ⟨x'.cb, 0, none⟩)) := (cell_blk hbl _).trans (by simpa using hcell 0 _ rfl)
              have t1 : wr.cell? ⟨gl, 1, none⟩ = some (.pointer (some ⟨x'.yb, 0, none⟩)) := (cell_blk hbl _).trans (by simpa using hcell 1 _ rfl)
              have HA := hide (asks_d base wb L 0 x' wr hL hx hbr (by omega) (by omega) k (by omega))
              clear hcell hx hbl
              go_wp2_with fail
              refine HA.out.mono ?_
              rintro e w3 ⟨rfl, L', hN, hpr, hL3, hB3⟩
              have hft3 := hft.next (hN.mono (by omega))
              have e8 : i + j + (k - 3) + 1 = i + j + (k + 1 - 3) := by omega
              rw [e8] at hft3
              go_wp2_with fail
              go_roundg (8 - (k + 1))
              case measure => omega
              case rel => exact ⟨k + 1, L', rfl, by go_num, by omega, by omega, rfl, hN.prs.trans hpl, hide (hN.vl.trans HV.out), hft3, hL3, hB.trans hB3⟩
            · have hk7i : ¬ (k : Int) ≤ 7 := by omega
              have hkd : decide ((k : Int) ≤ 7) = false := by simp; omega
              obtain rfl : k = 8 := by omega
              have HLk := hide (looks_d base wb L wr hL (by omega) (by omega))
              go_wp2_with fail
              refine HLk.out.mono ?_
              rintro e w4 ⟨rfl, hB4⟩
              go_wp2_with fail
              go_ret
              exact ⟨rfl, by rw [hbase]; exact hB.trans (hB4.mono hbr)⟩

end Go.Proofs.YtachmkhbbbmioaaGreat
